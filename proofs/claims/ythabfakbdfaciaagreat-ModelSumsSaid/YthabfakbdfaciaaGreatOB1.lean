import Derived.Test.YthabfakbdfaciaaGreatOB0
import Derived.Deep.RegionHeld3
namespace Go.Proofs.YthabfakbdfaciaaGreat
namespace Nt
set_option maxRecDepth 100000
set_option maxHeartbeats 16000000
section
theorem val_set {xs : List Nat} {j : Nat} (v : Nat) (h : j < xs.length) : val (xs.set j v) + LB ^ j * lim xs j = val xs + LB ^ j * v := by
  have h' : j < (xs.set j v).length := by simpa using h
  rw [val_split h, val_split h', lim_set_same h]
  have e1 : (xs.set j v).take j = xs.take j := by rw [List.take_set_of_le (Nat.le_refl _)]
  have e2 : (xs.set j v).drop (j + 1) = xs.drop (j + 1) := by rw [List.drop_set_of_lt (by omega)]
  rw [e1, e2, Nat.mul_add, Nat.mul_add]
  omega
def MulOut (xs ys : List Nat) (N i : Nat) (out : List Nat) : Prop :=
  out.length = N ∧ Limbs out ∧ val out = val (xs.take i) * val ys ∧ ∀ j, i + ys.length ≤ j → lim out j = 0
def MulIn (xs ys : List Nat) (N i k c : Nat) (out : List Nat) : Prop :=
  out.length = N ∧ Limbs out ∧ c < LB ∧ val out + LB ^ (i + k) * c = val (xs.take i) * val ys + LB ^ i * (lim xs i * val (ys.take k)) ∧ ∀ j, i + ys.length ≤ j → lim out j = 0
theorem lim_replicate (n j : Nat) : lim (List.replicate n 0) j = 0 := by
  rcases Nat.lt_or_ge j n with h | h
  · rw [lim_some (by simpa using h), List.getElem_replicate]
  · rw [lim_none (by simpa using h)]
theorem MulOut.zero (xs ys : List Nat) (N : Nat) : MulOut xs ys N 0 (List.replicate N 0) :=
  ⟨by simp, .replicate _, by rw [val_replicate]; simp, fun _ _ => lim_replicate _ _⟩
theorem MulOut.start {xs ys out : List Nat} {N i : Nat} (h : MulOut xs ys N i out) : MulIn xs ys N i 0 0 out :=
  ⟨h.1, h.2.1, LB_pos, by rw [h.2.2.1]; simp, h.2.2.2⟩
theorem MulIn.step {xs ys out : List Nat} {N i k c : Nat} (lx : Limbs xs) (ly : Limbs ys) (h : MulIn xs ys N i k c out) (hk : k < ys.length) (hN : i + k < N) :
    MulIn xs ys N i (k + 1) (maHi (lim xs i) (lim ys k) (lim out (i + k)) c) (out.set (i + k) (maLo (lim xs i) (lim ys k) (lim out (i + k)) c)) := by
  obtain ⟨h1, h2, h3, h4, h5⟩ := h
  refine ⟨by simpa using h1, h2.set _ _ (maLo_lt _ _ _ _), maHi_lt _ _ _ _ (lx.get _) (ly.get _) (h2.get _) h3, ?_, fun j hj => ?_⟩
  · have hs := val_set (xs := out) (maLo (lim xs i) (lim ys k) (lim out (i + k)) c) (show i + k < out.length by omega)
    have hm := ma_eq (lim xs i) (lim ys k) (lim out (i + k)) c
    have hp : LB ^ (i + k) * (maLo (lim xs i) (lim ys k) (lim out (i + k)) c + LB * maHi (lim xs i) (lim ys k) (lim out (i + k)) c) = LB ^ (i + k) * (lim xs i * lim ys k + lim out (i + k) + c) := by rw [hm]
    rw [Nat.mul_add, Nat.mul_add, Nat.mul_add] at hp
    rw [val_take_succ, Nat.mul_add, Nat.mul_add, show LB ^ i * (lim xs i * (LB ^ k * lim ys k)) = LB ^ (i + k) * (lim xs i * lim ys k) by rw [Nat.pow_add, Nat.mul_left_comm (lim xs i), Nat.mul_assoc],
      show i + (k + 1) = i + k + 1 by omega, Nat.pow_succ, Nat.mul_assoc]
    omega
  · rw [lim_set_other (by omega)]; exact h5 j hj
theorem MulIn.sum {xs ys out : List Nat} {N i c : Nat} (h : MulIn xs ys N i ys.length c out) : val out + LB ^ (i + ys.length) * c = val (xs.take (i + 1)) * val ys := by
  have h4 := h.2.2.2.1
  rw [List.take_length] at h4
  rw [h4, val_take_succ, Nat.add_mul, Nat.mul_assoc]
theorem MulIn.done0 {xs ys out : List Nat} {N i : Nat} (h : MulIn xs ys N i ys.length 0 out) : MulOut xs ys N (i + 1) out :=
  ⟨h.1, h.2.1, by have := h.sum; simpa using this, fun j hj => h.2.2.2.2 j (by omega)⟩
theorem MulIn.done {xs ys out : List Nat} {N i c : Nat} (h : MulIn xs ys N i ys.length c out) (hN : i + ys.length < N) : MulOut xs ys N (i + 1) (out.set (i + ys.length) c) := by
  have hs := val_set (xs := out) c (show i + ys.length < out.length by rw [h.1]; exact hN)
  rw [h.2.2.2.2 _ (Nat.le_refl _)] at hs
  refine ⟨by simpa using h.1, h.2.1.set _ _ h.2.2.1, ?_, fun j hj => ?_⟩
  · have := h.sum
    omega
  · rw [lim_set_other (by omega)]; exact h.2.2.2.2 j (by omega)
theorem MulOut.done {xs ys out : List Nat} {N : Nat} (h : MulOut xs ys N xs.length out) : digs (val xs * val ys) = trimz out ∧ Limbs out ∧ out.length = N := by
  have hv := h.2.2.1
  rw [List.take_length] at hv
  exact ⟨by rw [← hv]; exact digs_val h.2.1, h.2.1, h.1⟩
theorem val_take_le (xs : List Nat) (k : Nat) : val (xs.take k) ≤ val xs := by
  have : val xs = val (xs.take k ++ xs.drop k) := by rw [List.take_append_drop]
  rw [this, val_append]
  omega
theorem big_of_room {xs ys : List Nat} {i k most : Nat} (nx : Norm xs) (ny : Norm ys) (hi : i < xs.length) (hk : k < ys.length) (h : most ≤ i + k) : LB ^ most ≤ val xs * val ys := by
  have h1 := le_val nx (by intro e; subst e; simp at hi)
  have h2 := le_val ny (by intro e; subst e; simp at hk)
  refine Nat.le_trans ?_ (Nat.mul_le_mul h1 h2)
  rw [← Nat.pow_add]
  exact Nat.pow_le_pow_right LB_pos (by omega)
theorem big_of_carry {xs ys out : List Nat} {N i c most : Nat} (h : MulIn xs ys N i ys.length c out) (hc : c ≠ 0) (h64 : most ≤ i + ys.length) : LB ^ most ≤ val xs * val ys := by
  have hs := h.sum
  have h1 : LB ^ most * 1 ≤ LB ^ (i + ys.length) * c := Nat.mul_le_mul (Nat.pow_le_pow_right LB_pos h64) (by omega)
  have h2 := Nat.mul_le_mul_right (val ys) (val_take_le xs (i + 1))
  omega
theorem MulOut.fits {xs ys out : List Nat} {N most : Nat} (h : MulOut xs ys N xs.length out) (hN : N ≤ most) : val xs * val ys < LB ^ most := by
  have hv := h.2.2.1
  rw [List.take_length] at hv
  rw [← hv]
  have h1 := val_lt h.2.1
  have : LB ^ out.length ≤ LB ^ most := Nat.pow_le_pow_right LB_pos (by rw [h.1]; exact hN)
  omega
end
section
open Go.RowKit
theorem trim_n (A : Option Addr) (n c : Nat) (xs : List Nat) (w : World) (hx : xs.length = n) (hs : Sl w A xs) (hl : n ≤ c) (hn : n ≤ 1000000) :
    Calls Tryz.prog 144 #[.slice A n c] w fun e w' => e = .returned (.slice A (trimz xs).length c) ∧ w = w' := by
  subst hx
  exact trim_any A c xs w hs hl hn
theorem Own.trim {w : World} {base g cap : Nat} {xs : List Nat} (h : Own w base g cap xs) : Own w base g cap (trimz xs) := by
  have := h.take (trimz xs).length
  rwa [trimz_prefix] at this
theorem lsub_ok (A B : Option Addr) (c d : Nat) (xs ys : List Nat) (w : World) (hx : Sl w A xs) (hy : Sl w B ys) (lx : Limbs xs) (ly : Limbs ys)
   (hl : xs.length ≤ 10000) (hm : ys.length ≤ xs.length) (hle : val ys ≤ val xs) (n : Nat) (hn : xs.length = n) :
    Calls Tryz.prog 179 #[.slice A xs.length c, .slice B ys.length d] w (New w (digs (val xs - val ys))) := by
  have hmk : ∀ W : World, (Instr.makeSlice 26 (.int .i64 (n : Int)) (.int .i64 (n : Int))).run Tryz.prog W = .ok (.slice (some ⟨W.heap.size, 0, none⟩) n n) (W.alloc (.cells (madeCells #[.int .u64 0] n) 128)) :=
    fun W => run_make_u64 .i64 .i64 n n (by omega) (by omega) W
  have nb : n ≤ 10000 := by omega
  subst hn
  go_enter Tryz.func179, Tryz.ntmps179
  go_wp2
  have M := hide (Own.made (n := xs.length) w (Nat.le_refl _) (Nat.le_refl xs.length) (by unfold maxLen; omega))
  clear hmk
  go_loopw [6, 13] (fun cy i wr => ∃ k cc cs, k ≤ xs.length ∧ i = .int .i64 (k : Nat) ∧ cy = .int .u64 (cc : Nat) ∧ SubInv xs ys k cc cs ∧ Own wr w.heap.size w.heap.size xs.length (cs ++ List.replicate (xs.length - k) 0) ∧ Below w.heap.size w wr) (fun _ i _ => xs.length - (intOf i).toNat)
  case atStart => exact ⟨0, 0, [], Nat.zero_le _, rfl, rfl, SubInv.zero _ _, by simpa using M.out, (Below.refl _ _).alloc (Nat.le_refl _) _⟩
  case round =>
    obtain ⟨k, cc, cs, hk, rfl, rfl, ai, ho, hb⟩ := hrel
    by_cases hlt : k < xs.length
    · have hxr := hx.below hb (Nat.le_refl _)
      have hyr := hy.below hb (Nat.le_refl _)
      obtain ⟨b, o, rfl, ha0⟩ := hx.at_ (by omega)
      have ha := ha0.below hb ha0.lt
      have hbw := ha0.lt
      have hcx := ha.cell (j := k) (by omega)
      have hlen := ai.1
      have hcc := ai.2.2.1
      have hcell := ho.cell (j := k) (by simp; omega)
      have hfr := ho.frozen k
      have hst := ho.set k (difL (lim xs k) (lim ys k) cc)
      rw [set_grow' _ hlen hlt] at hst
      have S := hide hst
      have I := hide (ai.step lx ly)
      have BB := hide hb
      have LM := hide (fun W (hW : Sl W B ys) => limb_any B d ys k W hW (by omega) (by omega))
      have YR := hide hyr
      have hcs := hide (fun u => (show (wr.setCell ⟨w.heap.size, k, none⟩ u).drew.cell? ⟨b, o + k, none⟩ = some (.int .u64 ((lim xs k : Nat) : Int)) from
        (World.cell?_setCell_other wr _ _ u (by intro e; injection e with e _; omega)).trans hcx))
      clear hst hlen ho ai hb hyr hxr ha ha0
      go_wp2_with fail
      go_region_held3 (fun w' => w'.cell? ⟨b, o + k, none⟩ = some (.int .u64 ((lim xs k : Nat) : Int))) (first | exact hcs.out _ | go_keep)
        (first | (go_at_call 166; refine (LM.out _ YR.out.drew).mono ?_; rintro e w' ⟨rfl, rfl⟩) | simp only [sub64 _ _ cc hcc])
      go_wp2
      go_roundw
      case rel => exact ⟨k + 1, _, _, by omega, by go_num, rfl, I.out, S.out, (BB.out.setCell (Nat.le_refl _) _).drew⟩
      case measure => simp [intOf]; omega
    · obtain rfl : k = xs.length := by omega
      rw [Nat.sub_self, List.replicate_zero, List.append_nil] at ho
      obtain ⟨hv, hL, hlen⟩ := ai.done rfl hm hle
      have T := hide (trim_n _ _ xs.length cs wr hlen ho.sl (Nat.le_refl _) (by omega))
      have RR := hide ho.trim
      have BB := hide hb
      have D := hide (show digs (val xs - val ys) = trimz cs by rw [← hv]; exact digs_val hL)
      clear ho ai hb hv hL hlen
      go_wp2_with (go_at_call 144; (with_reducible refine (T.out).mono ?_); rintro ee w2 ⟨rfl, rfl⟩)
      go_ret
      exact New.mk D.out rfl RR.out BB.out
theorem lsub_any (A B : Option Addr) (c d : Nat) (xs ys : List Nat) (w : World) (hx : Sl w A xs) (hy : Sl w B ys) (lx : Limbs xs) (ly : Limbs ys) (ny : Norm ys)
   (hl : xs.length ≤ 10000) (hle : val ys ≤ val xs) :
    Calls Tryz.prog 179 #[.slice A xs.length c, .slice B ys.length d] w (New w (digs (val xs - val ys))) :=
  lsub_ok A B c d xs ys w hx hy lx ly hl (len_le_of_val lx ny hle) hle _ rfl
end
section
open Go.RowKit
def Fits (w : World) (most v : Nat) (e : Ending) (w' : World) : Prop :=
  (v < LB ^ most ∧ ∃ g cap, e = .returned (.tuple #[.slice (some ⟨g, 0, none⟩) (digs v).length cap, .bool true]) ∧ Own w' w.heap.size g cap (digs v) ∧ Below w.heap.size w w') ∨
  (LB ^ most ≤ v ∧ e = .returned (.tuple #[.slice none 0 0, .bool false]) ∧ Below w.heap.size w w')
theorem Fits.yes {w w' : World} {most v g n cap : Nat} {xs : List Nat} (h : v < LB ^ most) (e : digs v = xs) (hn : xs.length = n) (ho : Own w' w.heap.size g cap xs) (hb : Below w.heap.size w w') : Fits w most v (.returned (.tuple #[.slice (some ⟨g, 0, none⟩) n cap, .bool true])) w' := by
  subst e hn; exact .inl ⟨h, g, cap, rfl, ho, hb⟩
theorem Fits.no {w w' : World} {most v : Nat} (h : LB ^ most ≤ v) (hb : Below w.heap.size w w') : Fits w most v (.returned (.tuple #[.slice none 0 0, .bool false])) w' := .inr ⟨h, rfl, hb⟩
def MulBig (most : Nat) (xs ys : List Nat) (w : World) (a' : Act) (w' : World) : Prop :=
  LB ^ most ≤ val xs * val ys ∧ Below w.heap.size w w' ∧ ∃ t0 t1 t2 t3 t4 t5 t6 t7 t8 t9 t10 t11 t12 t13 t14 t15 t16 t17 t18 t19 t20 t21 t22 t23 t24 t25 t26 t27 t28 t29 t30 t31 t32 t33 t34 t35 t36 t37 t38 t39 t40 t41 t42 t43 t44 t45 t46 t47 t48 t49 t50 t51 t52 t53 t54 t55 t56 t57 t58 t59 t60 t61 t62 t63 t64 t65 t66 t67 t68 t69 t70 t71 t72 t73 t74 t75 t76 t77 t78 : Value, a' = { tmps := #[t0, t1, t2, t3, t4, t5, t6, t7, t8, t9, t10, t11, t12, t13, t14, t15, t16, t17, t18, t19, t20, t21, t22, t23, t24, t25, t26, t27, t28, t29, t30, t31, t32, t33, t34, t35, t36, t37, t38, t39, t40, t41, t42, t43, t44, t45, t46, t47, t48, t49, t50, t51, t52, t53, t54, t55, t56, t57, t58, t59, t60, t61, t62, t63, t64, t65, t66, t67, t68, t69, t70, t71, t72, t73, t74, t75, t76, t77, t78], defers := [] }
theorem MulBig.mk {most : Nat} {xs ys : List Nat} {w w' : World} (h : LB ^ most ≤ val xs * val ys) (hb : Below w.heap.size w w') (t0 t1 t2 t3 t4 t5 t6 t7 t8 t9 t10 t11 t12 t13 t14 t15 t16 t17 t18 t19 t20 t21 t22 t23 t24 t25 t26 t27 t28 t29 t30 t31 t32 t33 t34 t35 t36 t37 t38 t39 t40 t41 t42 t43 t44 t45 t46 t47 t48 t49 t50 t51 t52 t53 t54 t55 t56 t57 t58 t59 t60 t61 t62 t63 t64 t65 t66 t67 t68 t69 t70 t71 t72 t73 t74 t75 t76 t77 t78 : Value) : MulBig most xs ys w { tmps := #[t0, t1, t2, t3, t4, t5, t6, t7, t8, t9, t10, t11, t12, t13, t14, t15, t16, t17, t18, t19, t20, t21, t22, t23, t24, t25, t26, t27, t28, t29, t30, t31, t32, t33, t34, t35, t36, t37, t38, t39, t40, t41, t42, t43, t44, t45, t46, t47, t48, t49, t50, t51, t52, t53, t54, t55, t56, t57, t58, t59, t60, t61, t62, t63, t64, t65, t66, t67, t68, t69, t70, t71, t72, t73, t74, t75, t76, t77, t78], defers := [] } w' :=
  ⟨h, hb, _, _, _, _, _, _, _, _, _, _, _, _, _, _, _, _, _, _, _, _, _, _, _, _, _, _, _, _, _, _, _, _, _, _, _, _, _, _, _, _, _, _, _, _, _, _, _, _, _, _, _, _, _, _, _, _, _, _, _, _, _, _, _, _, _, _, _, _, _, _, _, _, _, _, _, _, _, _, _, rfl⟩
theorem lmul_ok (A B : Option Addr) (c d most : Nat) (xs ys : List Nat) (w : World) (hx : Sl w A xs) (hy : Sl w B ys) (lx : Limbs xs) (ly : Limbs ys)
   (hl : xs.length ≤ 10000) (hl' : ys.length ≤ 10000) (hmo : most ≤ 100000) (hxm : xs.length ≤ most) (nx : Norm xs) (ny : Norm ys) (N : Nat) (hN : min (xs.length + ys.length) most = N) :
    Calls Tryz.prog 180 #[.slice A xs.length c, .slice B ys.length d, .int .i64 (most : Int)] w (Fits w most (val xs * val ys)) := by
  have hmk : ∀ W : World, (Instr.makeSlice 26 (.int .i64 (N : Int)) (.int .i64 (N : Int))).run Tryz.prog W = .ok (.slice (some ⟨W.heap.size, 0, none⟩) N N) (W.alloc (.cells (madeCells #[.int .u64 0] N) 128)) :=
    fun W => run_make_u64 .i64 .i64 N N (by omega) (by omega) W
  have hmn : ∀ ts t W, (Builtin.min_ ts t #[.int .i64 ((xs.length : Int) + (ys.length : Int)), .int .i64 (most : Int)]).run Tryz.prog W = .ok (.int .i64 (N : Int)) W := fun ts t W => by
    rw [run_min_int2]
    congr 2
    split <;> omega
  have nb : N ≤ 20000 := by omega
  have nm : N ≤ most := by omega
  have nx0 : xs.length ≤ N := by omega
  have n1 : N ≤ xs.length + ys.length := by omega
  have n2 : N = most ∨ N = xs.length + ys.length := by omega
  have H := hide hN
  clear hN
  go_enter Tryz.func180, Tryz.ntmps180
  go_wp2
  refine wp_scope_jumps 0 (MulBig most xs ys w) (fun _ _ => 0) rfl ?_ ?_
  · go_wp2
    have M := hide (Own.made (n := N) w (Nat.le_refl _) (Nat.le_refl N) (by unfold maxLen; omega))
    clear hmk hmn
    go_loopw [23] (fun i wr => ∃ k out, k ≤ xs.length ∧ i = .int .i64 (k : Nat) ∧ MulOut xs ys N k out ∧ Own wr w.heap.size w.heap.size N out ∧ Below w.heap.size w wr) (fun i _ => xs.length - (intOf i).toNat)
    case atStart =>
      have hm := M.out
      exact ⟨0, _, Nat.zero_le _, rfl, MulOut.zero _ _ _, hm, (Below.refl _ _).alloc (Nat.le_refl _) _⟩
    case round =>
      obtain ⟨i, out, hi, rfl, mo, ho, hb⟩ := hrel
      by_cases hlt : i < xs.length
      · obtain ⟨wo, rfl⟩ : ∃ wo : World, wo = wr := ⟨_, rfl⟩
        obtain ⟨b, o, rfl, ha0⟩ := hx.at_ (by omega)
        have hcx := (ha0.below hb ha0.lt).cell (j := i) (by omega)
        have ST := hide (mo.start)
        have OO := hide ho
        have BB := hide hb
        clear mo ho hb ha0
        go_wp2
        go_loopw [10, 30] (fun cy kk wr => ∃ k cc out, k ≤ ys.length ∧ i + k ≤ N ∧ kk = .int .i64 (k : Nat) ∧ cy = .int .u64 (cc : Nat) ∧ MulIn xs ys N i k cc out ∧ Own wr w.heap.size w.heap.size N out ∧ Below w.heap.size w wr) (fun _ kk _ => ys.length - (intOf kk).toNat)
        case atStart => exact ⟨0, 0, out, Nat.zero_le _, by omega, rfl, rfl, ST.out, OO.out, BB.out⟩
        case round =>
          obtain ⟨k, cc, out', hk, hikN, rfl, rfl, mi, ho, hb⟩ := hrel
          by_cases hk2 : k < ys.length
          · obtain ⟨b', o', rfl, ha0'⟩ := hy.at_ (by omega)
            have hcy := (ha0'.below hb ha0'.lt).cell (j := k) (by omega)
            by_cases hN : i + k < N
            · have hcell := ho.cell (j := i + k) (by rw [mi.1]; omega)
              have hfr := ho.frozen (i + k)
              have MX := hide (fun W => mulAdd_any (lim xs i) (lim ys k) (lim out' (i + k)) cc (lx.get i) (ly.get k) (mi.2.1.get (i + k)) mi.2.2.1 W)
              have S := hide (ho.set (i + k) (maLo (lim xs i) (lim ys k) (lim out' (i + k)) cc))
              have I := hide (mi.step lx ly hk2 hN)
              have BB' := hide hb
              have hne : ((i : Int) + (k : Int) == (N : Int)) = false := by simp; omega
              clear ha0' mi ho hb hcx
              go_wp2_with (go_at_call 167; (with_reducible refine (MX.out _).mono ?_); rintro ee w2 ⟨rfl, rfl⟩)
              go_roundw
              case rel => exact ⟨k + 1, _, _, by omega, by omega, by go_num, rfl, I.out, S.out, BB'.out.setCell (Nat.le_refl _) _⟩
              case measure => simp [intOf]; omega
            · have hne : ((i : Int) + (k : Int) == (N : Int)) = true := by simp; omega
              have BG := hide (show LB ^ most ≤ val xs * val ys from big_of_room nx ny hlt hk2 (by omega))
              have BB' := hide hb
              clear ha0' mi ho hb hcx
              go_wp2
              go_step3
              exact ⟨rfl, MulBig.mk BG.out BB'.out _ _ _ _ _ _ _ _ _ _ _ _ _ _ _ _ _ _ _ _ _ _ _ _ _ _ _ _ _ _ _ _ _ _ _ _ _ _ _ _ _ _ _ _ _ _ _ _ _ _ _ _ _ _ _ _ _ _ _ _ _ _ _ _ _ _ _ _ _ _ _ _ _ _ _ _ _ _ _⟩
          · obtain rfl : k = ys.length := by omega
            by_cases hc0 : cc = 0
            · subst hc0
              have I := hide (mi.done0)
              have BB' := hide hb
              have O' := hide ho
              clear mi ho hb hcx
              go_wp2
              go_roundw
              case rel => exact ⟨i + 1, _, by omega, by go_num, I.out, O'.out, BB'.out⟩
              case measure => simp [intOf]; omega
            · have hcne : ((cc : Int) == 0) = false := by simp; omega
              by_cases hN : i + ys.length < N
              · have hcell := ho.cell (j := i + ys.length) (by rw [mi.1]; omega)
                have hfr := ho.frozen (i + ys.length)
                have S := hide (ho.set (i + ys.length) cc)
                have I := hide (mi.done hN)
                have BB' := hide hb
                have hne : ((i : Int) + (ys.length : Int) == (N : Int)) = false := by simp; omega
                clear mi ho hb hcx hc0
                go_wp2
                go_roundw
                case rel => exact ⟨i + 1, _, by omega, by go_num, I.out, S.out, BB'.out.setCell (Nat.le_refl _) _⟩
                case measure => simp [intOf]; omega
              · have hne : ((i : Int) + (ys.length : Int) == (N : Int)) = true := by simp; omega
                have BG := hide (show LB ^ most ≤ val xs * val ys from big_of_carry mi hc0 (by omega))
                have BB' := hide hb
                clear mi ho hb hcx hc0
                go_wp2
                go_step3
                exact ⟨rfl, MulBig.mk BG.out BB'.out _ _ _ _ _ _ _ _ _ _ _ _ _ _ _ _ _ _ _ _ _ _ _ _ _ _ _ _ _ _ _ _ _ _ _ _ _ _ _ _ _ _ _ _ _ _ _ _ _ _ _ _ _ _ _ _ _ _ _ _ _ _ _ _ _ _ _ _ _ _ _ _ _ _ _ _ _ _ _⟩
      · obtain rfl : i = xs.length := by omega
        have E := hide (show val xs * val ys < LB ^ most from mo.fits nm)
        obtain ⟨hd, hL, hlen⟩ := mo.done
        have T := hide (trim_n _ N N out wr hlen ho.sl (Nat.le_refl _) (by omega))
        have D := hide hd
        have RR := hide ho.trim
        have BB := hide hb
        clear mo ho hb hd hL hlen
        go_wp2_with (go_at_call 144; (with_reducible refine (T.out).mono ?_); rintro ee w2 ⟨rfl, rfl⟩)
        simp only [Exit.jump]
        go_ret2
        exact Fits.yes E.out D.out rfl RR.out BB.out
  · rintro a' w' ⟨E, hb, t0, t1, t2, t3, t4, t5, t6, t7, t8, t9, t10, t11, t12, t13, t14, t15, t16, t17, t18, t19, t20, t21, t22, t23, t24, t25, t26, t27, t28, t29, t30, t31, t32, t33, t34, t35, t36, t37, t38, t39, t40, t41, t42, t43, t44, t45, t46, t47, t48, t49, t50, t51, t52, t53, t54, t55, t56, t57, t58, t59, t60, t61, t62, t63, t64, t65, t66, t67, t68, t69, t70, t71, t72, t73, t74, t75, t76, t77, t78, rfl⟩
    have E := hide E
    have BB := hide hb
    clear hb hmk hmn
    go_wp2
    simp only [Exit.jump]
    go_ret2
    exact Fits.no E.out BB.out
theorem lmul_any (A B : Option Addr) (c d most : Nat) (xs ys : List Nat) (w : World) (hx : Sl w A xs) (hy : Sl w B ys) (lx : Limbs xs) (ly : Limbs ys)
   (hl : xs.length ≤ 10000) (hl' : ys.length ≤ 10000) (hmo : most ≤ 100000) (hxm : xs.length ≤ most) (nx : Norm xs) (ny : Norm ys) :
    Calls Tryz.prog 180 #[.slice A xs.length c, .slice B ys.length d, .int .i64 (most : Int)] w (Fits w most (val xs * val ys)) :=
  lmul_ok A B c d most xs ys w hx hy lx ly hl hl' hmo hxm nx ny _ rfl
end
section
def HB : Nat := 4294967296
theorem HB_eq : HB = 4294967296 := rfl
theorem HB_sq : HB * HB = LB := rfl
theorem op_geq_t (t : TypeId) {q : Nat} (h : HB ≤ q) : binOp .geq t (.int .u64 (q : Int)) (.int .u64 4294967296) = pure (.bool true) := by
  have e : decide ((4294967296 : Int) ≤ (q : Int)) = true := decide_eq_true (by rw [HB_eq] at h; omega)
  rw [← e]; rfl
theorem op_geq_f (t : TypeId) {q : Nat} (h : q < HB) : binOp .geq t (.int .u64 (q : Int)) (.int .u64 4294967296) = pure (.bool false) := by
  have e : decide ((4294967296 : Int) ≤ (q : Int)) = false := decide_eq_false (by rw [HB_eq] at h; omega)
  rw [← e]; rfl
theorem op_gtr_t (t : TypeId) {x y : Nat} (h : y < x) : binOp .gtr t (.int .u64 (x : Int)) (.int .u64 (y : Int)) = pure (.bool true) := by
  have e : decide ((y : Int) < (x : Int)) = true := decide_eq_true (by omega)
  rw [← e]; rfl
theorem op_gtr_f (t : TypeId) {x y : Nat} (h : x ≤ y) : binOp .gtr t (.int .u64 (x : Int)) (.int .u64 (y : Int)) = pure (.bool false) := by
  have e : decide ((y : Int) < (x : Int)) = false := decide_eq_false (by omega)
  rw [← e]; rfl
structure DS (a b v1 v0 q r : Nat) : Prop where
  eq : q * v1 + r = a
  ge : (a * HB + b) / (v1 * HB + v0) ≤ q
  le : q ≤ HB + 1
section
variable {a b v1 v0 q r : Nat}
theorem DS.start (hv : HB ≤ 2 * v1) (hv0 : v0 < HB) (ha : a < v1 * HB + v0) (hb : b < HB) : DS a b v1 v0 (a / v1) (a - a / v1 * v1) := by
  have hp : 0 < v1 := by rw [HB_eq] at hv; omega
  have h1 : a / v1 * v1 ≤ a := Nat.div_mul_le_self _ _
  have h2 : a < (a / v1 + 1) * v1 := by
    have := Nat.lt_div_mul_add (a := a) hp
    rw [Nat.add_mul, Nat.one_mul]; exact this
  refine ⟨by omega, ?_, ?_⟩
  · have h3 : (a + 1) * HB ≤ (a / v1 + 1) * v1 * HB := Nat.mul_le_mul_right _ h2
    have h4 : a * HB + b < (v1 * HB + v0) * (a / v1 + 1) := by
      have : (v1 * HB + v0) * (a / v1 + 1) = (a / v1 + 1) * v1 * HB + v0 * (a / v1 + 1) := by
        rw [Nat.add_mul, Nat.mul_comm (v1 * HB), ← Nat.mul_assoc]
      rw [this]
      rw [Nat.add_mul a 1, Nat.one_mul] at h3
      omega
    have := Nat.div_lt_of_lt_mul h4
    omega
  · have h5 : a / v1 < HB + 2 := by
      rw [Nat.div_lt_iff_lt_mul hp]
      rw [Nat.add_mul, Nat.mul_comm HB]
      omega
    omega
theorem DS.lt (h : DS a b v1 v0 q r) (ha : a < v1 * HB + v0) (hb : b < HB) (ht : HB ≤ q ∨ HB * r + b < q * v0) : (a * HB + b) / (v1 * HB + v0) < q := by
  rcases ht with ht | ht
  · refine Nat.lt_of_lt_of_le (Nat.div_lt_of_lt_mul ?_) ht
    have : (a + 1) * HB ≤ (v1 * HB + v0) * HB := Nat.mul_le_mul_right _ ha
    rw [Nat.add_mul a 1, Nat.one_mul] at this
    omega
  · refine Nat.div_lt_of_lt_mul ?_
    have e := congrArg (· * HB) h.eq
    simp only [Nat.add_mul] at e
    have : (v1 * HB + v0) * q = q * v1 * HB + q * v0 := by
      rw [Nat.add_mul, Nat.mul_comm (v1 * HB), ← Nat.mul_assoc, Nat.mul_comm v0]
    rw [this]
    rw [Nat.mul_comm HB r] at ht
    omega
theorem DS.step (h : DS a b v1 v0 q r) (hlt : (a * HB + b) / (v1 * HB + v0) < q) : DS a b v1 v0 (q - 1) (r + v1) := by
  have he := h.eq
  have hl := h.le
  have hlt' : (a * HB + b) / (v1 * HB + v0) ≤ q - 1 := Nat.le_sub_one_of_lt hlt
  have hq1 : q = q - 1 + 1 := (Nat.succ_pred_eq_of_pos (Nat.lt_of_le_of_lt (Nat.zero_le _) hlt)).symm
  clear hlt h
  obtain ⟨p, rfl⟩ : ∃ p, q = p + 1 := ⟨q - 1, hq1⟩
  refine ⟨?_, hlt', by omega⟩
  rw [Nat.add_mul, Nat.one_mul] at he
  rw [Nat.add_sub_cancel]
  omega
theorem DS.fits (h : DS a b v1 v0 q r) (hp : 0 < v1) (hx : q * v0 ≤ HB * r + b) : q = (a * HB + b) / (v1 * HB + v0) := by
  refine Nat.le_antisymm ?_ h.ge
  rw [Nat.le_div_iff_mul_le (by have : 0 < v1 * HB := Nat.mul_pos hp (by rw [HB_eq]; omega)
                                omega)]
  have e := congrArg (· * HB) h.eq
  simp only [Nat.add_mul] at e
  rw [Nat.mul_add, ← Nat.mul_assoc]
  rw [Nat.mul_comm HB r] at hx
  omega
theorem DS.full (h : DS a b v1 v0 q r) (hp : 0 < v1) (hv0 : v0 < HB) (hq : q ≤ HB) (hr : HB ≤ r) : q = (a * HB + b) / (v1 * HB + v0) := by
  refine h.fits hp ?_
  have h1 : q * v0 ≤ HB * r := Nat.mul_le_mul hq (by omega)
  omega
theorem DS.lt_top (ha : a < v1 * HB + v0) (hb : b < HB) : (a * HB + b) / (v1 * HB + v0) < HB := by
  refine Nat.div_lt_of_lt_mul ?_
  have : (a + 1) * HB ≤ (v1 * HB + v0) * HB := Nat.mul_le_mul_right _ ha
  rw [Nat.add_mul a 1, Nat.one_mul] at this
  omega
end
theorem left_word {a b v Q : Nat} (hQ : Q = (a * HB + b) / v) (hv : v ≤ LB) (hp : 0 < v) : subW (addW (mulW a HB) b) (mulW Q v) = (a * HB + b) % v := by
  have h1 : v * Q + (a * HB + b) % v = a * HB + b := by rw [hQ]; exact Nat.div_add_mod _ _
  have h2 := Nat.mod_lt (a * HB + b) hp
  unfold subW addW mulW
  rw [Nat.mul_comm Q v]
  generalize (a * HB + b) % v = R at *
  generalize v * Q = S at *
  generalize a * HB = T at *
  rw [LB_eq] at *
  omega
theorem two_steps {a b1 b0 v Q1 Q0 R1 R0 : Nat} (h1 : a * HB + b1 = v * Q1 + R1) (h0 : R1 * HB + b0 = v * Q0 + R0) : a * LB + (b1 * HB + b0) = v * (Q1 * HB + Q0) + R0 := by
  have e : a * LB = a * HB * HB := by rw [Nat.mul_assoc, HB_sq]
  have e1 := congrArg (· * HB) h1
  simp only [Nat.add_mul] at e1
  rw [e, Nat.mul_add, ← Nat.mul_assoc v]
  omega
theorem unshift {n y s Q R : Nat} (h : n * 2 ^ s = y * 2 ^ s * Q + R) (hR : R < y * 2 ^ s) : Q = n / y ∧ R / 2 ^ s = n % y := by
  have hs : 0 < 2 ^ s := Nat.pow_pos (by omega)
  have e : y * 2 ^ s * Q = (y * Q) * 2 ^ s := by rw [Nat.mul_right_comm]
  rw [e] at h
  have hle : y * Q ≤ n := by
    have : y * Q * 2 ^ s ≤ n * 2 ^ s := by omega
    exact Nat.le_of_mul_le_mul_right this hs
  have hR2 : R = (n - y * Q) * 2 ^ s := by rw [Nat.sub_mul]; omega
  have hlt : n - y * Q < y := by
    rw [hR2] at hR
    exact Nat.lt_of_mul_lt_mul_right hR
  have hq : n / y = Q := by
    refine Nat.div_eq_of_lt_le ?_ ?_
    · rw [Nat.mul_comm]; exact hle
    · rw [Nat.add_mul, Nat.one_mul, Nat.mul_comm Q]; omega
  exact ⟨hq.symm, by rw [hR2, Nat.mul_div_cancel _ hs]; have := Nat.div_add_mod n y; rw [hq] at this; omega⟩
def dvQ (hi lo y : Nat) : Nat := (hi * LB + lo) / y
def dvR (hi lo y : Nat) : Nat := (hi * LB + lo) % y
structure Dv (hi lo y s v v1 v0 a un10 b1 b0 : Nat) : Prop where
  hv : v = v1 * HB + v0
  hvs : v = y * 2 ^ s
  hv0 : v0 < HB
  hv1 : v1 < HB
  hvt : HB ≤ 2 * v1
  hu : a * LB + un10 = (hi * LB + lo) * 2 ^ s
  h10 : un10 = b1 * HB + b0
  hb1 : b1 < HB
  hb0 : b0 < HB
  hav : a < v
section
variable {hi lo y s v v1 v0 a un10 b1 b0 : Nat}
theorem Dv.v1_pos (h : Dv hi lo y s v v1 v0 a un10 b1 b0) : 0 < v1 := by have := h.hvt; rw [HB_eq] at this; omega
theorem Dv.v_lt (h : Dv hi lo y s v v1 v0 a un10 b1 b0) : v < LB := by
  rw [h.hv, ← HB_sq]
  have : (v1 + 1) * HB ≤ HB * HB := Nat.mul_le_mul_right _ h.hv1
  have := h.hv0
  rw [Nat.add_mul, Nat.one_mul] at *
  omega
theorem Dv.v_pos (h : Dv hi lo y s v v1 v0 a un10 b1 b0) : 0 < v := by have := h.hav; omega
theorem Dv.fin (h : Dv hi lo y s v v1 v0 a un10 b1 b0) {p un21 p0 rr : Nat} (hp : p = (a * HB + b1) / v) (hu : un21 = (a * HB + b1) % v) (hp0 : p0 = (un21 * HB + b0) / v) (hr : rr = (un21 * HB + b0) % v) :
    p * HB + p0 = dvQ hi lo y ∧ rr / 2 ^ s = dvR hi lo y := by
  have h1 : a * HB + b1 = v * p + un21 := by rw [hp, hu]; exact (Nat.div_add_mod _ _).symm
  have h0 : un21 * HB + b0 = v * p0 + rr := by rw [hp0, hr]; exact (Nat.div_add_mod _ _).symm
  have h2 := two_steps h1 h0
  rw [← h.h10, h.hu] at h2
  have hlt : rr < y * 2 ^ s := by rw [← h.hvs, hr]; exact Nat.mod_lt _ h.v_pos
  rw [h.hvs] at h2
  exact unshift h2 hlt
theorem Dv.fin2 (h : Dv hi lo y s v v1 v0 a un10 b1 b0) {p un21 p0 : Nat} (hp : p = (a * HB + b1) / v) (hu : un21 = (a * HB + b1) % v) (hp0 : p0 = (un21 * HB + b0) / v) (hpl : p < HB) (hp0l : p0 < HB) :
    addW (mulW p HB) p0 = dvQ hi lo y ∧ shrW (subW (addW (mulW un21 HB) b0) (mulW p0 v)) s = dvR hi lo y := by
  have hl := left_word (a := un21) (b := b0) hp0 (Nat.le_of_lt h.v_lt) h.v_pos
  obtain ⟨h1, h2⟩ := h.fin hp hu hp0 rfl
  rw [hl, ← h1, ← h2]
  refine ⟨?_, rfl⟩
  have : (p + 1) * HB ≤ HB * HB := Nat.mul_le_mul_right _ hpl
  rw [HB_sq, Nat.add_mul, Nat.one_mul] at this
  unfold addW mulW
  rw [Nat.mod_eq_of_lt (show p * HB < LB by omega), Nat.mod_eq_of_lt (by omega)]
theorem meas_lt {r r' v1 : Nat} (h : r' = r + v1) (hp : 0 < v1) (hl : r < HB) : (4294967296 - (r' : Int)).toNat < (4294967296 - (r : Int)).toNat := by rw [HB_eq] at hl; omega
theorem Dv.p_lt (h : Dv hi lo y s v v1 v0 a un10 b1 b0) : (a * HB + b1) / v < HB := by
  have := h.hav
  rw [h.hv] at this ⊢
  exact DS.lt_top this h.hb1
theorem Dv.p0_lt (h : Dv hi lo y s v v1 v0 a un10 b1 b0) {un21 : Nat} (hu : un21 = (a * HB + b1) % v) : (un21 * HB + b0) / v < HB := by
  have : un21 < v := by rw [hu]; exact Nat.mod_lt _ h.v_pos
  rw [h.hv] at this ⊢
  exact DS.lt_top this h.hb0
end
end
section
open Go.RowKit
theorem div64_zero (lo y : Nat) (hy : 0 < y) (hlo : lo < LB) (w : World) :
    Calls Tryz.prog 153 #[.int .u64 0, .int .u64 (lo : Int), .int .u64 (y : Int)] w (Quiet w (.tuple #[.int .u64 ((dvQ 0 lo y : Nat) : Int), .int .u64 ((dvR 0 lo y : Nat) : Int)])) := by
  have e0 : ((y : Int) == 0) = false := by simp; omega
  have Q1 := op_quo 128 lo y hlo hy
  have Q2 := op_rem 128 lo y hy
  have E1 := hide (show quoW lo y = dvQ 0 lo y by unfold dvQ quoW; simp)
  have E2 := hide (show remW lo y = dvR 0 lo y by unfold dvR remW; simp)
  clear hlo
  go_enter Tryz.func153, Tryz.ntmps153
  go_wp2
  go_quiet (fail)
  go_wp2
  go_ret2
  exact ⟨ret_two (by rw [E1.out]) (by rw [E2.out]), _, rfl⟩
theorem div64_big (hi lo y s v v1 v0 t hs ls a un10 b1 b0 qa m0 rh : Nat) (hi0 : 0 < hi) (hy : hi < y) (hyL : y < LB) (w : World) (dv0 : Dv hi lo y s v v1 v0 a un10 b1 b0)
    (hs63 : s ≤ 63) (ht : t + s = 64) (hlz : lzW y = s)
    (e1 : binOp .shl 128 (.int .u64 (y : Int)) (.int .u64 (s : Int)) = pure (.int .u64 (v : Int)))
    (e2 : binOp .shr 128 (.int .u64 (v : Int)) (.int .u64 32) = pure (.int .u64 (v1 : Int)))
    (e3 : binOp .and 128 (.int .u64 (v : Int)) (.int .u64 4294967295) = pure (.int .u64 (v0 : Int)))
    (e4 : binOp .shl 128 (.int .u64 (hi : Int)) (.int .u64 (s : Int)) = pure (.int .u64 (hs : Int)))
    (e5 : binOp .sub 165 (.int .u64 64) (.int .u64 (s : Int)) = pure (.int .u64 (t : Int)))
    (e6 : binOp .shr 128 (.int .u64 (lo : Int)) (.int .u64 (t : Int)) = pure (.int .u64 (ls : Int)))
    (e7 : binOp .or 128 (.int .u64 (hs : Int)) (.int .u64 (ls : Int)) = pure (.int .u64 (a : Int)))
    (e8 : binOp .shl 128 (.int .u64 (lo : Int)) (.int .u64 (s : Int)) = pure (.int .u64 (un10 : Int)))
    (e9 : binOp .shr 128 (.int .u64 (un10 : Int)) (.int .u64 32) = pure (.int .u64 (b1 : Int)))
    (e10 : binOp .and 128 (.int .u64 (un10 : Int)) (.int .u64 4294967295) = pure (.int .u64 (b0 : Int)))
    (e11 : binOp .quo 128 (.int .u64 (a : Int)) (.int .u64 (v1 : Int)) = pure (.int .u64 (qa : Int)))
    (e12 : binOp .mul 128 (.int .u64 (qa : Int)) (.int .u64 (v1 : Int)) = pure (.int .u64 (m0 : Int)))
    (st : DS a b1 v1 v0 qa rh) (sr : rh < HB)
    (e13 : binOp .sub 128 (.int .u64 (a : Int)) (.int .u64 (m0 : Int)) = pure (.int .u64 (rh : Int))) :
    Calls Tryz.prog 153 #[.int .u64 (hi : Int), .int .u64 (lo : Int), .int .u64 (y : Int)] w (Quiet w (.tuple #[.int .u64 ((dvQ hi lo y : Nat) : Int), .int .u64 ((dvR hi lo y : Nat) : Int)])) := by
  have f0 : ((y : Int) == 0) = false := by simp; omega
  have f1 : ((hi : Int) == 0) = false := by simp; omega
  have LZ := hide (lz64 y hyL w)
  rw [hlz] at LZ
  go_enter Tryz.func153, Tryz.ntmps153
  go_wp2_with (go_at_call 161; (with_reducible refine (LZ.out).mono ?_); rintro ee w2 ⟨rfl, rfl⟩)
  have DV := hide dv0
  have ST := hide st
  have SR := hide sr
  clear st sr
  have AV := hide (show a < v1 * HB + v0 by rw [← dv0.hv]; exact dv0.hav)
  have BL := hide dv0.hb1
  clear dv0 e1 e2 e3 e4 e5 e6 e7 e8 e9 e10 e11 e12 e13 LZ f0 f1 hlz
  go_loop [15, 16] (fun x y => ∃ q r : Nat, x = .int .u64 (q : Int) ∧ y = .int .u64 (r : Int) ∧ DS a b1 v1 v0 q r ∧ r < HB) (fun _ y => (4294967296 - intOf y).toNat)
  case atStart => exact ⟨_, _, rfl, rfl, ST.out, SR.out⟩
  case round =>
    obtain ⟨q, r, rfl, rfl, ds, hrl⟩ := hrel
    have dv := DV.out
    have av := AV.out
    have bl := BL.out
    have step : ∀ ht : HB ≤ q ∨ HB * r + b1 < q * v0, ∃ p r', p + 1 = q ∧ r' = r + v1 ∧ DS a b1 v1 v0 p r' := fun ht => by
      have hlt := ds.lt av bl ht
      have h1 := Nat.lt_of_le_of_lt (Nat.zero_le _) hlt
      exact ⟨q - 1, _, by omega, rfl, ds.step hlt⟩
    by_cases hq : HB ≤ q
    · obtain ⟨p, r', hpq, hr', ds'⟩ := step (.inl hq)
      have hlt := op_geq_t 128 hq
      clear step
      have o4 : binOp .sub 128 (.int .u64 (q : Int)) (.int .u64 1) = pure (.int .u64 (p : Int)) := op_sub_le _ q 1 p hpq (by have := ds.le; rw [HB_eq] at this; rw [LB_eq]; omega)
      have o5 : binOp .add 128 (.int .u64 (r : Int)) (.int .u64 (v1 : Int)) = pure (.int .u64 (r' : Int)) := op_add_lt _ r v1 r' hr' (by have h1 := dv.hv1; rw [HB_eq] at hrl h1; rw [LB_eq]; omega)
      by_cases hbr : HB ≤ r'
      · have HP := hide (show p = (a * HB + b1) / v by rw [dv.hv]; exact DS.full ds' dv.v1_pos dv.hv0 (by have := ds.le; omega) hbr)
        have k1 := op_geq_t 128 hbr
        clear ds ds' hpq hr' hbr dv av bl hrl
        obtain ⟨P1, hP1⟩ : ∃ P1, P1 = p := ⟨_, rfl⟩
        obtain ⟨ma, hma⟩ : ∃ x, x = mulW a HB := ⟨_, rfl⟩
        obtain ⟨mb, hmb⟩ : ∃ x, x = addW ma b1 := ⟨_, rfl⟩
        obtain ⟨mq, hmq⟩ : ∃ x, x = mulW p v := ⟨_, rfl⟩
        obtain ⟨un, hun⟩ : ∃ x, x = subW mb mq := ⟨_, rfl⟩
        obtain ⟨q2, hq2⟩ : ∃ x, x = quoW un v1 := ⟨_, rfl⟩
        obtain ⟨mm, hmm⟩ : ∃ x, x = q2 * v1 := ⟨_, rfl⟩
        obtain ⟨rh2, hrh2⟩ : ∃ x, x = un - mm := ⟨_, rfl⟩
        have hun' : un = (a * HB + b1) % v := by rw [hun, hmb, hma, hmq]; exact left_word HP.out (Nat.le_of_lt DV.out.v_lt) DV.out.v_pos
        have hunv : un < v := by rw [hun']; exact Nat.mod_lt _ DV.out.v_pos
        have hmle : mm ≤ un := by rw [hmm, hq2]; exact Nat.div_mul_le_self _ _
        have hvL := DV.out.v_lt
        have g1 : binOp .mul 128 (.int .u64 (a : Int)) (.int .u64 4294967296) = pure (.int .u64 (ma : Int)) := by rw [hma]; exact op_mul _ a HB
        have g2 : binOp .add 128 (.int .u64 (ma : Int)) (.int .u64 (b1 : Int)) = pure (.int .u64 (mb : Int)) := by rw [hmb]; exact op_add _ ma b1
        have g3 : binOp .mul 128 (.int .u64 (p : Int)) (.int .u64 (v : Int)) = pure (.int .u64 (mq : Int)) := by rw [hmq]; exact op_mul _ p v
        have g4 : binOp .sub 128 (.int .u64 (mb : Int)) (.int .u64 (mq : Int)) = pure (.int .u64 (un : Int)) := by rw [hun]; exact op_sub _ mb mq (by rw [hmq]; exact Nat.mod_lt _ LB_pos)
        have g5 : binOp .quo 128 (.int .u64 (un : Int)) (.int .u64 (v1 : Int)) = pure (.int .u64 (q2 : Int)) := by rw [hq2]; exact op_quo _ un v1 (Nat.lt_trans hunv hvL) DV.out.v1_pos
        have g6 : binOp .mul 128 (.int .u64 (q2 : Int)) (.int .u64 (v1 : Int)) = pure (.int .u64 (mm : Int)) := op_mul_lt _ q2 v1 mm hmm (Nat.lt_of_le_of_lt hmle (Nat.lt_trans hunv hvL))
        have g7 : binOp .sub 128 (.int .u64 (un : Int)) (.int .u64 (mm : Int)) = pure (.int .u64 (rh2 : Int)) := op_sub_le _ un mm rh2 (by omega) (Nat.lt_trans hunv hvL)
        have HP1 := hide (show P1 = (a * HB + b1) / v by rw [hP1]; exact HP.out)
        have AV := hide (show un < v1 * HB + v0 by rw [← DV.out.hv]; exact hunv)
        have BL := hide DV.out.hb0
        have ST := hide (show DS un b0 v1 v0 q2 rh2 by rw [hrh2, hmm, hq2]; exact DS.start DV.out.hvt DV.out.hv0 AV.out DV.out.hb0)
        have SR := hide (show rh2 < HB by
          have h1 := DV.out.hv1
          have h2 := Nat.div_add_mod un v1
          have h3 := Nat.mod_lt un DV.out.v1_pos
          have h4 : mm = v1 * (un / v1) := by rw [hmm, hq2, Nat.mul_comm]; rfl
          omega)
        have HUN := hide hun'
        subst hP1
        clear hma hmb hmq hun hq2 hmm hrh2 hun' hunv hmle hvL
        go_wp2
        clear g1 g2 g3 g4 g5 g6 g7 HP
        go_loop [18, 16] (fun x y => ∃ q r : Nat, x = .int .u64 (q : Int) ∧ y = .int .u64 (r : Int) ∧ DS un b0 v1 v0 q r ∧ r < HB) (fun _ y => (4294967296 - intOf y).toNat)
        case atStart => exact ⟨_, _, rfl, rfl, ST.out, SR.out⟩
        case round =>
          obtain ⟨q, r, rfl, rfl, ds, hrl⟩ := hrel
          have dv := DV.out
          have av := AV.out
          have bl := BL.out
          have step : ∀ ht : HB ≤ q ∨ HB * r + b0 < q * v0, ∃ p r', p + 1 = q ∧ r' = r + v1 ∧ DS un b0 v1 v0 p r' := fun ht => by
            have hlt := ds.lt av bl ht
            have h1 := Nat.lt_of_le_of_lt (Nat.zero_le _) hlt
            exact ⟨q - 1, _, by omega, rfl, ds.step hlt⟩
          by_cases hq : HB ≤ q
          · obtain ⟨p, r', hpq, hr', ds'⟩ := step (.inl hq)
            have hlt := op_geq_t 128 hq
            clear step
            have o4 : binOp .sub 128 (.int .u64 (q : Int)) (.int .u64 1) = pure (.int .u64 (p : Int)) := op_sub_le _ q 1 p hpq (by have := ds.le; rw [HB_eq] at this; rw [LB_eq]; omega)
            have o5 : binOp .add 128 (.int .u64 (r : Int)) (.int .u64 (v1 : Int)) = pure (.int .u64 (r' : Int)) := op_add_lt _ r v1 r' hr' (by have h1 := dv.hv1; rw [HB_eq] at hrl h1; rw [LB_eq]; omega)
            by_cases hbr : HB ≤ r'
            · have HP := hide (show p = (un * HB + b0) / v by rw [dv.hv]; exact DS.full ds' dv.v1_pos dv.hv0 (by have := ds.le; omega) hbr)
              have k1 := op_geq_t 128 hbr
              clear ds ds' hpq hr' hbr dv av bl hrl
              have FIN0 := hide (DV.out.fin2 HP1.out HUN.out HP.out (by rw [HP1.out]; exact DV.out.p_lt) (by rw [HP.out]; exact DV.out.p0_lt HUN.out))
              obtain ⟨x1, hx1⟩ : ∃ x, x = mulW P1 HB := ⟨_, rfl⟩
              obtain ⟨qt, hqt⟩ : ∃ x, x = addW x1 p := ⟨_, rfl⟩
              obtain ⟨x2, hx2⟩ : ∃ x, x = mulW un HB := ⟨_, rfl⟩
              obtain ⟨x3, hx3⟩ : ∃ x, x = addW x2 b0 := ⟨_, rfl⟩
              obtain ⟨x4, hx4⟩ : ∃ x, x = mulW p v := ⟨_, rfl⟩
              obtain ⟨rr, hrr⟩ : ∃ x, x = subW x3 x4 := ⟨_, rfl⟩
              obtain ⟨rs, hrs⟩ : ∃ x, x = shrW rr s := ⟨_, rfl⟩
              have FIN := hide (show qt = dvQ hi lo y ∧ rs = dvR hi lo y by rw [hqt, hx1, hrs, hrr, hx3, hx2, hx4]; exact FIN0.out)
              have g1 : binOp .mul 128 (.int .u64 (P1 : Int)) (.int .u64 4294967296) = pure (.int .u64 (x1 : Int)) := by rw [hx1]; exact op_mul _ P1 HB
              have g2 : binOp .add 128 (.int .u64 (x1 : Int)) (.int .u64 (p : Int)) = pure (.int .u64 (qt : Int)) := by rw [hqt]; exact op_add _ x1 p
              have g3 : binOp .mul 128 (.int .u64 (un : Int)) (.int .u64 4294967296) = pure (.int .u64 (x2 : Int)) := by rw [hx2]; exact op_mul _ un HB
              have g4 : binOp .add 128 (.int .u64 (x2 : Int)) (.int .u64 (b0 : Int)) = pure (.int .u64 (x3 : Int)) := by rw [hx3]; exact op_add _ x2 b0
              have g5 : binOp .mul 128 (.int .u64 (p : Int)) (.int .u64 (v : Int)) = pure (.int .u64 (x4 : Int)) := by rw [hx4]; exact op_mul _ p v
              have g6 : binOp .sub 128 (.int .u64 (x3 : Int)) (.int .u64 (x4 : Int)) = pure (.int .u64 (rr : Int)) := by rw [hrr]; exact op_sub _ x3 x4 (by rw [hx4]; exact Nat.mod_lt _ LB_pos)
              have g7 : binOp .shr 128 (.int .u64 (rr : Int)) (.int .u64 (s : Int)) = pure (.int .u64 (rs : Int)) := by rw [hrs]; exact op_shr _ _ rr s (by omega)
              clear FIN0 hx1 hqt hx2 hx3 hx4 hrr hrs
              go_wp2
              go_ret2
              exact ⟨ret_two (by rw [FIN.out.1]) (by rw [FIN.out.2]), 0, rfl⟩
            · have k1 := op_geq_f 128 (Nat.lt_of_not_le hbr)
              have RL := hide (Nat.lt_of_not_le hbr)
              have DD := hide ds'
              have RR := hide (meas_lt hr' dv.v1_pos hrl)
              clear ds ds' hpq hr' hbr dv av bl hrl
              go_wp2
              go_round
              case rel => exact ⟨p, r', rfl, rfl, DD.out, RL.out⟩
              case measure => exact RR.out
          · have hqn : q < HB := Nat.lt_of_not_le hq
            obtain ⟨m1, hm1⟩ : ∃ m, m = q * v0 := ⟨_, rfl⟩
            obtain ⟨m2, hm2⟩ : ∃ m, m = HB * r := ⟨_, rfl⟩
            obtain ⟨m3, hm3⟩ : ∃ m, m = m2 + b0 := ⟨_, rfl⟩
            have l1 : m1 < LB := by
              rw [hm1, ← HB_sq]
              exact Nat.mul_lt_mul'' hqn dv.hv0
            have l3 : m3 < LB := by
              have h1 : HB * (r + 1) ≤ HB * HB := Nat.mul_le_mul_left _ hrl
              rw [Nat.mul_add, Nat.mul_one, HB_sq] at h1
              omega
            have o1 : binOp .mul 128 (.int .u64 (q : Int)) (.int .u64 (v0 : Int)) = pure (.int .u64 (m1 : Int)) := op_mul_lt _ q v0 m1 hm1 l1
            have o2 : binOp .mul 128 (.int .u64 4294967296) (.int .u64 (r : Int)) = pure (.int .u64 (m2 : Int)) := op_mul_lt _ HB r m2 hm2 (by omega)
            have o3 : binOp .add 128 (.int .u64 (m2 : Int)) (.int .u64 (b0 : Int)) = pure (.int .u64 (m3 : Int)) := op_add_lt _ m2 b0 m3 hm3 l3
            by_cases ht : m3 < m1
            · obtain ⟨p, r', hpq, hr', ds'⟩ := step (.inr (by rw [← hm2, ← hm3, ← hm1]; exact ht))
              have hlt := op_geq_f 128 hqn
              have tg := op_gtr_t 128 ht
              clear step hm1 hm2 hm3 l1 l3 hq hqn ht
              have o4 : binOp .sub 128 (.int .u64 (q : Int)) (.int .u64 1) = pure (.int .u64 (p : Int)) := op_sub_le _ q 1 p hpq (by have := ds.le; rw [HB_eq] at this; rw [LB_eq]; omega)
              have o5 : binOp .add 128 (.int .u64 (r : Int)) (.int .u64 (v1 : Int)) = pure (.int .u64 (r' : Int)) := op_add_lt _ r v1 r' hr' (by have h1 := dv.hv1; rw [HB_eq] at hrl h1; rw [LB_eq]; omega)
              by_cases hbr : HB ≤ r'
              · have HP := hide (show p = (un * HB + b0) / v by rw [dv.hv]; exact DS.full ds' dv.v1_pos dv.hv0 (by have := ds.le; omega) hbr)
                have k1 := op_geq_t 128 hbr
                clear ds ds' hpq hr' hbr dv av bl hrl
                have FIN0 := hide (DV.out.fin2 HP1.out HUN.out HP.out (by rw [HP1.out]; exact DV.out.p_lt) (by rw [HP.out]; exact DV.out.p0_lt HUN.out))
                obtain ⟨x1, hx1⟩ : ∃ x, x = mulW P1 HB := ⟨_, rfl⟩
                obtain ⟨qt, hqt⟩ : ∃ x, x = addW x1 p := ⟨_, rfl⟩
                obtain ⟨x2, hx2⟩ : ∃ x, x = mulW un HB := ⟨_, rfl⟩
                obtain ⟨x3, hx3⟩ : ∃ x, x = addW x2 b0 := ⟨_, rfl⟩
                obtain ⟨x4, hx4⟩ : ∃ x, x = mulW p v := ⟨_, rfl⟩
                obtain ⟨rr, hrr⟩ : ∃ x, x = subW x3 x4 := ⟨_, rfl⟩
                obtain ⟨rs, hrs⟩ : ∃ x, x = shrW rr s := ⟨_, rfl⟩
                have FIN := hide (show qt = dvQ hi lo y ∧ rs = dvR hi lo y by rw [hqt, hx1, hrs, hrr, hx3, hx2, hx4]; exact FIN0.out)
                have g1 : binOp .mul 128 (.int .u64 (P1 : Int)) (.int .u64 4294967296) = pure (.int .u64 (x1 : Int)) := by rw [hx1]; exact op_mul _ P1 HB
                have g2 : binOp .add 128 (.int .u64 (x1 : Int)) (.int .u64 (p : Int)) = pure (.int .u64 (qt : Int)) := by rw [hqt]; exact op_add _ x1 p
                have g3 : binOp .mul 128 (.int .u64 (un : Int)) (.int .u64 4294967296) = pure (.int .u64 (x2 : Int)) := by rw [hx2]; exact op_mul _ un HB
                have g4 : binOp .add 128 (.int .u64 (x2 : Int)) (.int .u64 (b0 : Int)) = pure (.int .u64 (x3 : Int)) := by rw [hx3]; exact op_add _ x2 b0
                have g5 : binOp .mul 128 (.int .u64 (p : Int)) (.int .u64 (v : Int)) = pure (.int .u64 (x4 : Int)) := by rw [hx4]; exact op_mul _ p v
                have g6 : binOp .sub 128 (.int .u64 (x3 : Int)) (.int .u64 (x4 : Int)) = pure (.int .u64 (rr : Int)) := by rw [hrr]; exact op_sub _ x3 x4 (by rw [hx4]; exact Nat.mod_lt _ LB_pos)
                have g7 : binOp .shr 128 (.int .u64 (rr : Int)) (.int .u64 (s : Int)) = pure (.int .u64 (rs : Int)) := by rw [hrs]; exact op_shr _ _ rr s (by omega)
                clear FIN0 hx1 hqt hx2 hx3 hx4 hrr hrs
                go_wp2
                go_ret2
                exact ⟨ret_two (by rw [FIN.out.1]) (by rw [FIN.out.2]), 0, rfl⟩
              · have k1 := op_geq_f 128 (Nat.lt_of_not_le hbr)
                have RL := hide (Nat.lt_of_not_le hbr)
                have DD := hide ds'
                have RR := hide (meas_lt hr' dv.v1_pos hrl)
                clear ds ds' hpq hr' hbr dv av bl hrl
                go_wp2
                go_round
                case rel => exact ⟨p, r', rfl, rfl, DD.out, RL.out⟩
                case measure => exact RR.out
            · have HP := hide (show q = (un * HB + b0) / v by rw [dv.hv]; exact DS.fits ds dv.v1_pos (by rw [← hm2, ← hm3, ← hm1]; omega))
              have hlt := op_geq_f 128 hqn
              have tg := op_gtr_f 128 (Nat.le_of_not_lt ht)
              obtain ⟨p, rfl⟩ : ∃ p, p = q := ⟨_, rfl⟩
              clear step hm1 hm2 hm3 l1 l3 hq ds ht hqn dv av bl hrl
              have FIN0 := hide (DV.out.fin2 HP1.out HUN.out HP.out (by rw [HP1.out]; exact DV.out.p_lt) (by rw [HP.out]; exact DV.out.p0_lt HUN.out))
              obtain ⟨x1, hx1⟩ : ∃ x, x = mulW P1 HB := ⟨_, rfl⟩
              obtain ⟨qt, hqt⟩ : ∃ x, x = addW x1 p := ⟨_, rfl⟩
              obtain ⟨x2, hx2⟩ : ∃ x, x = mulW un HB := ⟨_, rfl⟩
              obtain ⟨x3, hx3⟩ : ∃ x, x = addW x2 b0 := ⟨_, rfl⟩
              obtain ⟨x4, hx4⟩ : ∃ x, x = mulW p v := ⟨_, rfl⟩
              obtain ⟨rr, hrr⟩ : ∃ x, x = subW x3 x4 := ⟨_, rfl⟩
              obtain ⟨rs, hrs⟩ : ∃ x, x = shrW rr s := ⟨_, rfl⟩
              have FIN := hide (show qt = dvQ hi lo y ∧ rs = dvR hi lo y by rw [hqt, hx1, hrs, hrr, hx3, hx2, hx4]; exact FIN0.out)
              have g1 : binOp .mul 128 (.int .u64 (P1 : Int)) (.int .u64 4294967296) = pure (.int .u64 (x1 : Int)) := by rw [hx1]; exact op_mul _ P1 HB
              have g2 : binOp .add 128 (.int .u64 (x1 : Int)) (.int .u64 (p : Int)) = pure (.int .u64 (qt : Int)) := by rw [hqt]; exact op_add _ x1 p
              have g3 : binOp .mul 128 (.int .u64 (un : Int)) (.int .u64 4294967296) = pure (.int .u64 (x2 : Int)) := by rw [hx2]; exact op_mul _ un HB
              have g4 : binOp .add 128 (.int .u64 (x2 : Int)) (.int .u64 (b0 : Int)) = pure (.int .u64 (x3 : Int)) := by rw [hx3]; exact op_add _ x2 b0
              have g5 : binOp .mul 128 (.int .u64 (p : Int)) (.int .u64 (v : Int)) = pure (.int .u64 (x4 : Int)) := by rw [hx4]; exact op_mul _ p v
              have g6 : binOp .sub 128 (.int .u64 (x3 : Int)) (.int .u64 (x4 : Int)) = pure (.int .u64 (rr : Int)) := by rw [hrr]; exact op_sub _ x3 x4 (by rw [hx4]; exact Nat.mod_lt _ LB_pos)
              have g7 : binOp .shr 128 (.int .u64 (rr : Int)) (.int .u64 (s : Int)) = pure (.int .u64 (rs : Int)) := by rw [hrs]; exact op_shr _ _ rr s (by omega)
              clear FIN0 hx1 hqt hx2 hx3 hx4 hrr hrs
              go_wp2
              go_ret2
              exact ⟨ret_two (by rw [FIN.out.1]) (by rw [FIN.out.2]), 0, rfl⟩
      · have k1 := op_geq_f 128 (Nat.lt_of_not_le hbr)
        have RL := hide (Nat.lt_of_not_le hbr)
        have DD := hide ds'
        have RR := hide (meas_lt hr' dv.v1_pos hrl)
        clear ds ds' hpq hr' hbr dv av bl hrl
        go_wp2
        go_round
        case rel => exact ⟨p, r', rfl, rfl, DD.out, RL.out⟩
        case measure => exact RR.out
    · have hqn : q < HB := Nat.lt_of_not_le hq
      obtain ⟨m1, hm1⟩ : ∃ m, m = q * v0 := ⟨_, rfl⟩
      obtain ⟨m2, hm2⟩ : ∃ m, m = HB * r := ⟨_, rfl⟩
      obtain ⟨m3, hm3⟩ : ∃ m, m = m2 + b1 := ⟨_, rfl⟩
      have l1 : m1 < LB := by
        rw [hm1, ← HB_sq]
        exact Nat.mul_lt_mul'' hqn dv.hv0
      have l3 : m3 < LB := by
        have h1 : HB * (r + 1) ≤ HB * HB := Nat.mul_le_mul_left _ hrl
        rw [Nat.mul_add, Nat.mul_one, HB_sq] at h1
        omega
      have o1 : binOp .mul 128 (.int .u64 (q : Int)) (.int .u64 (v0 : Int)) = pure (.int .u64 (m1 : Int)) := op_mul_lt _ q v0 m1 hm1 l1
      have o2 : binOp .mul 128 (.int .u64 4294967296) (.int .u64 (r : Int)) = pure (.int .u64 (m2 : Int)) := op_mul_lt _ HB r m2 hm2 (by omega)
      have o3 : binOp .add 128 (.int .u64 (m2 : Int)) (.int .u64 (b1 : Int)) = pure (.int .u64 (m3 : Int)) := op_add_lt _ m2 b1 m3 hm3 l3
      by_cases ht : m3 < m1
      · obtain ⟨p, r', hpq, hr', ds'⟩ := step (.inr (by rw [← hm2, ← hm3, ← hm1]; exact ht))
        have hlt := op_geq_f 128 hqn
        have tg := op_gtr_t 128 ht
        clear step hm1 hm2 hm3 l1 l3 hq hqn ht
        have o4 : binOp .sub 128 (.int .u64 (q : Int)) (.int .u64 1) = pure (.int .u64 (p : Int)) := op_sub_le _ q 1 p hpq (by have := ds.le; rw [HB_eq] at this; rw [LB_eq]; omega)
        have o5 : binOp .add 128 (.int .u64 (r : Int)) (.int .u64 (v1 : Int)) = pure (.int .u64 (r' : Int)) := op_add_lt _ r v1 r' hr' (by have h1 := dv.hv1; rw [HB_eq] at hrl h1; rw [LB_eq]; omega)
        by_cases hbr : HB ≤ r'
        · have HP := hide (show p = (a * HB + b1) / v by rw [dv.hv]; exact DS.full ds' dv.v1_pos dv.hv0 (by have := ds.le; omega) hbr)
          have k1 := op_geq_t 128 hbr
          clear ds ds' hpq hr' hbr dv av bl hrl
          obtain ⟨P1, hP1⟩ : ∃ P1, P1 = p := ⟨_, rfl⟩
          obtain ⟨ma, hma⟩ : ∃ x, x = mulW a HB := ⟨_, rfl⟩
          obtain ⟨mb, hmb⟩ : ∃ x, x = addW ma b1 := ⟨_, rfl⟩
          obtain ⟨mq, hmq⟩ : ∃ x, x = mulW p v := ⟨_, rfl⟩
          obtain ⟨un, hun⟩ : ∃ x, x = subW mb mq := ⟨_, rfl⟩
          obtain ⟨q2, hq2⟩ : ∃ x, x = quoW un v1 := ⟨_, rfl⟩
          obtain ⟨mm, hmm⟩ : ∃ x, x = q2 * v1 := ⟨_, rfl⟩
          obtain ⟨rh2, hrh2⟩ : ∃ x, x = un - mm := ⟨_, rfl⟩
          have hun' : un = (a * HB + b1) % v := by rw [hun, hmb, hma, hmq]; exact left_word HP.out (Nat.le_of_lt DV.out.v_lt) DV.out.v_pos
          have hunv : un < v := by rw [hun']; exact Nat.mod_lt _ DV.out.v_pos
          have hmle : mm ≤ un := by rw [hmm, hq2]; exact Nat.div_mul_le_self _ _
          have hvL := DV.out.v_lt
          have g1 : binOp .mul 128 (.int .u64 (a : Int)) (.int .u64 4294967296) = pure (.int .u64 (ma : Int)) := by rw [hma]; exact op_mul _ a HB
          have g2 : binOp .add 128 (.int .u64 (ma : Int)) (.int .u64 (b1 : Int)) = pure (.int .u64 (mb : Int)) := by rw [hmb]; exact op_add _ ma b1
          have g3 : binOp .mul 128 (.int .u64 (p : Int)) (.int .u64 (v : Int)) = pure (.int .u64 (mq : Int)) := by rw [hmq]; exact op_mul _ p v
          have g4 : binOp .sub 128 (.int .u64 (mb : Int)) (.int .u64 (mq : Int)) = pure (.int .u64 (un : Int)) := by rw [hun]; exact op_sub _ mb mq (by rw [hmq]; exact Nat.mod_lt _ LB_pos)
          have g5 : binOp .quo 128 (.int .u64 (un : Int)) (.int .u64 (v1 : Int)) = pure (.int .u64 (q2 : Int)) := by rw [hq2]; exact op_quo _ un v1 (Nat.lt_trans hunv hvL) DV.out.v1_pos
          have g6 : binOp .mul 128 (.int .u64 (q2 : Int)) (.int .u64 (v1 : Int)) = pure (.int .u64 (mm : Int)) := op_mul_lt _ q2 v1 mm hmm (Nat.lt_of_le_of_lt hmle (Nat.lt_trans hunv hvL))
          have g7 : binOp .sub 128 (.int .u64 (un : Int)) (.int .u64 (mm : Int)) = pure (.int .u64 (rh2 : Int)) := op_sub_le _ un mm rh2 (by omega) (Nat.lt_trans hunv hvL)
          have HP1 := hide (show P1 = (a * HB + b1) / v by rw [hP1]; exact HP.out)
          have AV := hide (show un < v1 * HB + v0 by rw [← DV.out.hv]; exact hunv)
          have BL := hide DV.out.hb0
          have ST := hide (show DS un b0 v1 v0 q2 rh2 by rw [hrh2, hmm, hq2]; exact DS.start DV.out.hvt DV.out.hv0 AV.out DV.out.hb0)
          have SR := hide (show rh2 < HB by
            have h1 := DV.out.hv1
            have h2 := Nat.div_add_mod un v1
            have h3 := Nat.mod_lt un DV.out.v1_pos
            have h4 : mm = v1 * (un / v1) := by rw [hmm, hq2, Nat.mul_comm]; rfl
            omega)
          have HUN := hide hun'
          subst hP1
          clear hma hmb hmq hun hq2 hmm hrh2 hun' hunv hmle hvL
          go_wp2
          clear g1 g2 g3 g4 g5 g6 g7 HP
          go_loop [18, 16] (fun x y => ∃ q r : Nat, x = .int .u64 (q : Int) ∧ y = .int .u64 (r : Int) ∧ DS un b0 v1 v0 q r ∧ r < HB) (fun _ y => (4294967296 - intOf y).toNat)
          case atStart => exact ⟨_, _, rfl, rfl, ST.out, SR.out⟩
          case round =>
            obtain ⟨q, r, rfl, rfl, ds, hrl⟩ := hrel
            have dv := DV.out
            have av := AV.out
            have bl := BL.out
            have step : ∀ ht : HB ≤ q ∨ HB * r + b0 < q * v0, ∃ p r', p + 1 = q ∧ r' = r + v1 ∧ DS un b0 v1 v0 p r' := fun ht => by
              have hlt := ds.lt av bl ht
              have h1 := Nat.lt_of_le_of_lt (Nat.zero_le _) hlt
              exact ⟨q - 1, _, by omega, rfl, ds.step hlt⟩
            by_cases hq : HB ≤ q
            · obtain ⟨p, r', hpq, hr', ds'⟩ := step (.inl hq)
              have hlt := op_geq_t 128 hq
              clear step
              have o4 : binOp .sub 128 (.int .u64 (q : Int)) (.int .u64 1) = pure (.int .u64 (p : Int)) := op_sub_le _ q 1 p hpq (by have := ds.le; rw [HB_eq] at this; rw [LB_eq]; omega)
              have o5 : binOp .add 128 (.int .u64 (r : Int)) (.int .u64 (v1 : Int)) = pure (.int .u64 (r' : Int)) := op_add_lt _ r v1 r' hr' (by have h1 := dv.hv1; rw [HB_eq] at hrl h1; rw [LB_eq]; omega)
              by_cases hbr : HB ≤ r'
              · have HP := hide (show p = (un * HB + b0) / v by rw [dv.hv]; exact DS.full ds' dv.v1_pos dv.hv0 (by have := ds.le; omega) hbr)
                have k1 := op_geq_t 128 hbr
                clear ds ds' hpq hr' hbr dv av bl hrl
                have FIN0 := hide (DV.out.fin2 HP1.out HUN.out HP.out (by rw [HP1.out]; exact DV.out.p_lt) (by rw [HP.out]; exact DV.out.p0_lt HUN.out))
                obtain ⟨x1, hx1⟩ : ∃ x, x = mulW P1 HB := ⟨_, rfl⟩
                obtain ⟨qt, hqt⟩ : ∃ x, x = addW x1 p := ⟨_, rfl⟩
                obtain ⟨x2, hx2⟩ : ∃ x, x = mulW un HB := ⟨_, rfl⟩
                obtain ⟨x3, hx3⟩ : ∃ x, x = addW x2 b0 := ⟨_, rfl⟩
                obtain ⟨x4, hx4⟩ : ∃ x, x = mulW p v := ⟨_, rfl⟩
                obtain ⟨rr, hrr⟩ : ∃ x, x = subW x3 x4 := ⟨_, rfl⟩
                obtain ⟨rs, hrs⟩ : ∃ x, x = shrW rr s := ⟨_, rfl⟩
                have FIN := hide (show qt = dvQ hi lo y ∧ rs = dvR hi lo y by rw [hqt, hx1, hrs, hrr, hx3, hx2, hx4]; exact FIN0.out)
                have g1 : binOp .mul 128 (.int .u64 (P1 : Int)) (.int .u64 4294967296) = pure (.int .u64 (x1 : Int)) := by rw [hx1]; exact op_mul _ P1 HB
                have g2 : binOp .add 128 (.int .u64 (x1 : Int)) (.int .u64 (p : Int)) = pure (.int .u64 (qt : Int)) := by rw [hqt]; exact op_add _ x1 p
                have g3 : binOp .mul 128 (.int .u64 (un : Int)) (.int .u64 4294967296) = pure (.int .u64 (x2 : Int)) := by rw [hx2]; exact op_mul _ un HB
                have g4 : binOp .add 128 (.int .u64 (x2 : Int)) (.int .u64 (b0 : Int)) = pure (.int .u64 (x3 : Int)) := by rw [hx3]; exact op_add _ x2 b0
                have g5 : binOp .mul 128 (.int .u64 (p : Int)) (.int .u64 (v : Int)) = pure (.int .u64 (x4 : Int)) := by rw [hx4]; exact op_mul _ p v
                have g6 : binOp .sub 128 (.int .u64 (x3 : Int)) (.int .u64 (x4 : Int)) = pure (.int .u64 (rr : Int)) := by rw [hrr]; exact op_sub _ x3 x4 (by rw [hx4]; exact Nat.mod_lt _ LB_pos)
                have g7 : binOp .shr 128 (.int .u64 (rr : Int)) (.int .u64 (s : Int)) = pure (.int .u64 (rs : Int)) := by rw [hrs]; exact op_shr _ _ rr s (by omega)
                clear FIN0 hx1 hqt hx2 hx3 hx4 hrr hrs
                go_wp2
                go_ret2
                exact ⟨ret_two (by rw [FIN.out.1]) (by rw [FIN.out.2]), 0, rfl⟩
              · have k1 := op_geq_f 128 (Nat.lt_of_not_le hbr)
                have RL := hide (Nat.lt_of_not_le hbr)
                have DD := hide ds'
                have RR := hide (meas_lt hr' dv.v1_pos hrl)
                clear ds ds' hpq hr' hbr dv av bl hrl
                go_wp2
                go_round
                case rel => exact ⟨p, r', rfl, rfl, DD.out, RL.out⟩
                case measure => exact RR.out
            · have hqn : q < HB := Nat.lt_of_not_le hq
              obtain ⟨m1, hm1⟩ : ∃ m, m = q * v0 := ⟨_, rfl⟩
              obtain ⟨m2, hm2⟩ : ∃ m, m = HB * r := ⟨_, rfl⟩
              obtain ⟨m3, hm3⟩ : ∃ m, m = m2 + b0 := ⟨_, rfl⟩
              have l1 : m1 < LB := by
                rw [hm1, ← HB_sq]
                exact Nat.mul_lt_mul'' hqn dv.hv0
              have l3 : m3 < LB := by
                have h1 : HB * (r + 1) ≤ HB * HB := Nat.mul_le_mul_left _ hrl
                rw [Nat.mul_add, Nat.mul_one, HB_sq] at h1
                omega
              have o1 : binOp .mul 128 (.int .u64 (q : Int)) (.int .u64 (v0 : Int)) = pure (.int .u64 (m1 : Int)) := op_mul_lt _ q v0 m1 hm1 l1
              have o2 : binOp .mul 128 (.int .u64 4294967296) (.int .u64 (r : Int)) = pure (.int .u64 (m2 : Int)) := op_mul_lt _ HB r m2 hm2 (by omega)
              have o3 : binOp .add 128 (.int .u64 (m2 : Int)) (.int .u64 (b0 : Int)) = pure (.int .u64 (m3 : Int)) := op_add_lt _ m2 b0 m3 hm3 l3
              by_cases ht : m3 < m1
              · obtain ⟨p, r', hpq, hr', ds'⟩ := step (.inr (by rw [← hm2, ← hm3, ← hm1]; exact ht))
                have hlt := op_geq_f 128 hqn
                have tg := op_gtr_t 128 ht
                clear step hm1 hm2 hm3 l1 l3 hq hqn ht
                have o4 : binOp .sub 128 (.int .u64 (q : Int)) (.int .u64 1) = pure (.int .u64 (p : Int)) := op_sub_le _ q 1 p hpq (by have := ds.le; rw [HB_eq] at this; rw [LB_eq]; omega)
                have o5 : binOp .add 128 (.int .u64 (r : Int)) (.int .u64 (v1 : Int)) = pure (.int .u64 (r' : Int)) := op_add_lt _ r v1 r' hr' (by have h1 := dv.hv1; rw [HB_eq] at hrl h1; rw [LB_eq]; omega)
                by_cases hbr : HB ≤ r'
                · have HP := hide (show p = (un * HB + b0) / v by rw [dv.hv]; exact DS.full ds' dv.v1_pos dv.hv0 (by have := ds.le; omega) hbr)
                  have k1 := op_geq_t 128 hbr
                  clear ds ds' hpq hr' hbr dv av bl hrl
                  have FIN0 := hide (DV.out.fin2 HP1.out HUN.out HP.out (by rw [HP1.out]; exact DV.out.p_lt) (by rw [HP.out]; exact DV.out.p0_lt HUN.out))
                  obtain ⟨x1, hx1⟩ : ∃ x, x = mulW P1 HB := ⟨_, rfl⟩
                  obtain ⟨qt, hqt⟩ : ∃ x, x = addW x1 p := ⟨_, rfl⟩
                  obtain ⟨x2, hx2⟩ : ∃ x, x = mulW un HB := ⟨_, rfl⟩
                  obtain ⟨x3, hx3⟩ : ∃ x, x = addW x2 b0 := ⟨_, rfl⟩
                  obtain ⟨x4, hx4⟩ : ∃ x, x = mulW p v := ⟨_, rfl⟩
                  obtain ⟨rr, hrr⟩ : ∃ x, x = subW x3 x4 := ⟨_, rfl⟩
                  obtain ⟨rs, hrs⟩ : ∃ x, x = shrW rr s := ⟨_, rfl⟩
                  have FIN := hide (show qt = dvQ hi lo y ∧ rs = dvR hi lo y by rw [hqt, hx1, hrs, hrr, hx3, hx2, hx4]; exact FIN0.out)
                  have g1 : binOp .mul 128 (.int .u64 (P1 : Int)) (.int .u64 4294967296) = pure (.int .u64 (x1 : Int)) := by rw [hx1]; exact op_mul _ P1 HB
                  have g2 : binOp .add 128 (.int .u64 (x1 : Int)) (.int .u64 (p : Int)) = pure (.int .u64 (qt : Int)) := by rw [hqt]; exact op_add _ x1 p
                  have g3 : binOp .mul 128 (.int .u64 (un : Int)) (.int .u64 4294967296) = pure (.int .u64 (x2 : Int)) := by rw [hx2]; exact op_mul _ un HB
                  have g4 : binOp .add 128 (.int .u64 (x2 : Int)) (.int .u64 (b0 : Int)) = pure (.int .u64 (x3 : Int)) := by rw [hx3]; exact op_add _ x2 b0
                  have g5 : binOp .mul 128 (.int .u64 (p : Int)) (.int .u64 (v : Int)) = pure (.int .u64 (x4 : Int)) := by rw [hx4]; exact op_mul _ p v
                  have g6 : binOp .sub 128 (.int .u64 (x3 : Int)) (.int .u64 (x4 : Int)) = pure (.int .u64 (rr : Int)) := by rw [hrr]; exact op_sub _ x3 x4 (by rw [hx4]; exact Nat.mod_lt _ LB_pos)
                  have g7 : binOp .shr 128 (.int .u64 (rr : Int)) (.int .u64 (s : Int)) = pure (.int .u64 (rs : Int)) := by rw [hrs]; exact op_shr _ _ rr s (by omega)
                  clear FIN0 hx1 hqt hx2 hx3 hx4 hrr hrs
                  go_wp2
                  go_ret2
                  exact ⟨ret_two (by rw [FIN.out.1]) (by rw [FIN.out.2]), 0, rfl⟩
                · have k1 := op_geq_f 128 (Nat.lt_of_not_le hbr)
                  have RL := hide (Nat.lt_of_not_le hbr)
                  have DD := hide ds'
                  have RR := hide (meas_lt hr' dv.v1_pos hrl)
                  clear ds ds' hpq hr' hbr dv av bl hrl
                  go_wp2
                  go_round
                  case rel => exact ⟨p, r', rfl, rfl, DD.out, RL.out⟩
                  case measure => exact RR.out
              · have HP := hide (show q = (un * HB + b0) / v by rw [dv.hv]; exact DS.fits ds dv.v1_pos (by rw [← hm2, ← hm3, ← hm1]; omega))
                have hlt := op_geq_f 128 hqn
                have tg := op_gtr_f 128 (Nat.le_of_not_lt ht)
                obtain ⟨p, rfl⟩ : ∃ p, p = q := ⟨_, rfl⟩
                clear step hm1 hm2 hm3 l1 l3 hq ds ht hqn dv av bl hrl
                have FIN0 := hide (DV.out.fin2 HP1.out HUN.out HP.out (by rw [HP1.out]; exact DV.out.p_lt) (by rw [HP.out]; exact DV.out.p0_lt HUN.out))
                obtain ⟨x1, hx1⟩ : ∃ x, x = mulW P1 HB := ⟨_, rfl⟩
                obtain ⟨qt, hqt⟩ : ∃ x, x = addW x1 p := ⟨_, rfl⟩
                obtain ⟨x2, hx2⟩ : ∃ x, x = mulW un HB := ⟨_, rfl⟩
                obtain ⟨x3, hx3⟩ : ∃ x, x = addW x2 b0 := ⟨_, rfl⟩
                obtain ⟨x4, hx4⟩ : ∃ x, x = mulW p v := ⟨_, rfl⟩
                obtain ⟨rr, hrr⟩ : ∃ x, x = subW x3 x4 := ⟨_, rfl⟩
                obtain ⟨rs, hrs⟩ : ∃ x, x = shrW rr s := ⟨_, rfl⟩
                have FIN := hide (show qt = dvQ hi lo y ∧ rs = dvR hi lo y by rw [hqt, hx1, hrs, hrr, hx3, hx2, hx4]; exact FIN0.out)
                have g1 : binOp .mul 128 (.int .u64 (P1 : Int)) (.int .u64 4294967296) = pure (.int .u64 (x1 : Int)) := by rw [hx1]; exact op_mul _ P1 HB
                have g2 : binOp .add 128 (.int .u64 (x1 : Int)) (.int .u64 (p : Int)) = pure (.int .u64 (qt : Int)) := by rw [hqt]; exact op_add _ x1 p
                have g3 : binOp .mul 128 (.int .u64 (un : Int)) (.int .u64 4294967296) = pure (.int .u64 (x2 : Int)) := by rw [hx2]; exact op_mul _ un HB
                have g4 : binOp .add 128 (.int .u64 (x2 : Int)) (.int .u64 (b0 : Int)) = pure (.int .u64 (x3 : Int)) := by rw [hx3]; exact op_add _ x2 b0
                have g5 : binOp .mul 128 (.int .u64 (p : Int)) (.int .u64 (v : Int)) = pure (.int .u64 (x4 : Int)) := by rw [hx4]; exact op_mul _ p v
                have g6 : binOp .sub 128 (.int .u64 (x3 : Int)) (.int .u64 (x4 : Int)) = pure (.int .u64 (rr : Int)) := by rw [hrr]; exact op_sub _ x3 x4 (by rw [hx4]; exact Nat.mod_lt _ LB_pos)
                have g7 : binOp .shr 128 (.int .u64 (rr : Int)) (.int .u64 (s : Int)) = pure (.int .u64 (rs : Int)) := by rw [hrs]; exact op_shr _ _ rr s (by omega)
                clear FIN0 hx1 hqt hx2 hx3 hx4 hrr hrs
                go_wp2
                go_ret2
                exact ⟨ret_two (by rw [FIN.out.1]) (by rw [FIN.out.2]), 0, rfl⟩
        · have k1 := op_geq_f 128 (Nat.lt_of_not_le hbr)
          have RL := hide (Nat.lt_of_not_le hbr)
          have DD := hide ds'
          have RR := hide (meas_lt hr' dv.v1_pos hrl)
          clear ds ds' hpq hr' hbr dv av bl hrl
          go_wp2
          go_round
          case rel => exact ⟨p, r', rfl, rfl, DD.out, RL.out⟩
          case measure => exact RR.out
      · have HP := hide (show q = (a * HB + b1) / v by rw [dv.hv]; exact DS.fits ds dv.v1_pos (by rw [← hm2, ← hm3, ← hm1]; omega))
        have hlt := op_geq_f 128 hqn
        have tg := op_gtr_f 128 (Nat.le_of_not_lt ht)
        obtain ⟨p, rfl⟩ : ∃ p, p = q := ⟨_, rfl⟩
        clear step hm1 hm2 hm3 l1 l3 hq ds ht hqn dv av bl hrl
        obtain ⟨P1, hP1⟩ : ∃ P1, P1 = p := ⟨_, rfl⟩
        obtain ⟨ma, hma⟩ : ∃ x, x = mulW a HB := ⟨_, rfl⟩
        obtain ⟨mb, hmb⟩ : ∃ x, x = addW ma b1 := ⟨_, rfl⟩
        obtain ⟨mq, hmq⟩ : ∃ x, x = mulW p v := ⟨_, rfl⟩
        obtain ⟨un, hun⟩ : ∃ x, x = subW mb mq := ⟨_, rfl⟩
        obtain ⟨q2, hq2⟩ : ∃ x, x = quoW un v1 := ⟨_, rfl⟩
        obtain ⟨mm, hmm⟩ : ∃ x, x = q2 * v1 := ⟨_, rfl⟩
        obtain ⟨rh2, hrh2⟩ : ∃ x, x = un - mm := ⟨_, rfl⟩
        have hun' : un = (a * HB + b1) % v := by rw [hun, hmb, hma, hmq]; exact left_word HP.out (Nat.le_of_lt DV.out.v_lt) DV.out.v_pos
        have hunv : un < v := by rw [hun']; exact Nat.mod_lt _ DV.out.v_pos
        have hmle : mm ≤ un := by rw [hmm, hq2]; exact Nat.div_mul_le_self _ _
        have hvL := DV.out.v_lt
        have g1 : binOp .mul 128 (.int .u64 (a : Int)) (.int .u64 4294967296) = pure (.int .u64 (ma : Int)) := by rw [hma]; exact op_mul _ a HB
        have g2 : binOp .add 128 (.int .u64 (ma : Int)) (.int .u64 (b1 : Int)) = pure (.int .u64 (mb : Int)) := by rw [hmb]; exact op_add _ ma b1
        have g3 : binOp .mul 128 (.int .u64 (p : Int)) (.int .u64 (v : Int)) = pure (.int .u64 (mq : Int)) := by rw [hmq]; exact op_mul _ p v
        have g4 : binOp .sub 128 (.int .u64 (mb : Int)) (.int .u64 (mq : Int)) = pure (.int .u64 (un : Int)) := by rw [hun]; exact op_sub _ mb mq (by rw [hmq]; exact Nat.mod_lt _ LB_pos)
        have g5 : binOp .quo 128 (.int .u64 (un : Int)) (.int .u64 (v1 : Int)) = pure (.int .u64 (q2 : Int)) := by rw [hq2]; exact op_quo _ un v1 (Nat.lt_trans hunv hvL) DV.out.v1_pos
        have g6 : binOp .mul 128 (.int .u64 (q2 : Int)) (.int .u64 (v1 : Int)) = pure (.int .u64 (mm : Int)) := op_mul_lt _ q2 v1 mm hmm (Nat.lt_of_le_of_lt hmle (Nat.lt_trans hunv hvL))
        have g7 : binOp .sub 128 (.int .u64 (un : Int)) (.int .u64 (mm : Int)) = pure (.int .u64 (rh2 : Int)) := op_sub_le _ un mm rh2 (by omega) (Nat.lt_trans hunv hvL)
        have HP1 := hide (show P1 = (a * HB + b1) / v by rw [hP1]; exact HP.out)
        have AV := hide (show un < v1 * HB + v0 by rw [← DV.out.hv]; exact hunv)
        have BL := hide DV.out.hb0
        have ST := hide (show DS un b0 v1 v0 q2 rh2 by rw [hrh2, hmm, hq2]; exact DS.start DV.out.hvt DV.out.hv0 AV.out DV.out.hb0)
        have SR := hide (show rh2 < HB by
          have h1 := DV.out.hv1
          have h2 := Nat.div_add_mod un v1
          have h3 := Nat.mod_lt un DV.out.v1_pos
          have h4 : mm = v1 * (un / v1) := by rw [hmm, hq2, Nat.mul_comm]; rfl
          omega)
        have HUN := hide hun'
        subst hP1
        clear hma hmb hmq hun hq2 hmm hrh2 hun' hunv hmle hvL
        go_wp2
        clear g1 g2 g3 g4 g5 g6 g7 HP
        go_loop [18, 16] (fun x y => ∃ q r : Nat, x = .int .u64 (q : Int) ∧ y = .int .u64 (r : Int) ∧ DS un b0 v1 v0 q r ∧ r < HB) (fun _ y => (4294967296 - intOf y).toNat)
        case atStart => exact ⟨_, _, rfl, rfl, ST.out, SR.out⟩
        case round =>
          obtain ⟨q, r, rfl, rfl, ds, hrl⟩ := hrel
          have dv := DV.out
          have av := AV.out
          have bl := BL.out
          have step : ∀ ht : HB ≤ q ∨ HB * r + b0 < q * v0, ∃ p r', p + 1 = q ∧ r' = r + v1 ∧ DS un b0 v1 v0 p r' := fun ht => by
            have hlt := ds.lt av bl ht
            have h1 := Nat.lt_of_le_of_lt (Nat.zero_le _) hlt
            exact ⟨q - 1, _, by omega, rfl, ds.step hlt⟩
          by_cases hq : HB ≤ q
          · obtain ⟨p, r', hpq, hr', ds'⟩ := step (.inl hq)
            have hlt := op_geq_t 128 hq
            clear step
            have o4 : binOp .sub 128 (.int .u64 (q : Int)) (.int .u64 1) = pure (.int .u64 (p : Int)) := op_sub_le _ q 1 p hpq (by have := ds.le; rw [HB_eq] at this; rw [LB_eq]; omega)
            have o5 : binOp .add 128 (.int .u64 (r : Int)) (.int .u64 (v1 : Int)) = pure (.int .u64 (r' : Int)) := op_add_lt _ r v1 r' hr' (by have h1 := dv.hv1; rw [HB_eq] at hrl h1; rw [LB_eq]; omega)
            by_cases hbr : HB ≤ r'
            · have HP := hide (show p = (un * HB + b0) / v by rw [dv.hv]; exact DS.full ds' dv.v1_pos dv.hv0 (by have := ds.le; omega) hbr)
              have k1 := op_geq_t 128 hbr
              clear ds ds' hpq hr' hbr dv av bl hrl
              have FIN0 := hide (DV.out.fin2 HP1.out HUN.out HP.out (by rw [HP1.out]; exact DV.out.p_lt) (by rw [HP.out]; exact DV.out.p0_lt HUN.out))
              obtain ⟨x1, hx1⟩ : ∃ x, x = mulW P1 HB := ⟨_, rfl⟩
              obtain ⟨qt, hqt⟩ : ∃ x, x = addW x1 p := ⟨_, rfl⟩
              obtain ⟨x2, hx2⟩ : ∃ x, x = mulW un HB := ⟨_, rfl⟩
              obtain ⟨x3, hx3⟩ : ∃ x, x = addW x2 b0 := ⟨_, rfl⟩
              obtain ⟨x4, hx4⟩ : ∃ x, x = mulW p v := ⟨_, rfl⟩
              obtain ⟨rr, hrr⟩ : ∃ x, x = subW x3 x4 := ⟨_, rfl⟩
              obtain ⟨rs, hrs⟩ : ∃ x, x = shrW rr s := ⟨_, rfl⟩
              have FIN := hide (show qt = dvQ hi lo y ∧ rs = dvR hi lo y by rw [hqt, hx1, hrs, hrr, hx3, hx2, hx4]; exact FIN0.out)
              have g1 : binOp .mul 128 (.int .u64 (P1 : Int)) (.int .u64 4294967296) = pure (.int .u64 (x1 : Int)) := by rw [hx1]; exact op_mul _ P1 HB
              have g2 : binOp .add 128 (.int .u64 (x1 : Int)) (.int .u64 (p : Int)) = pure (.int .u64 (qt : Int)) := by rw [hqt]; exact op_add _ x1 p
              have g3 : binOp .mul 128 (.int .u64 (un : Int)) (.int .u64 4294967296) = pure (.int .u64 (x2 : Int)) := by rw [hx2]; exact op_mul _ un HB
              have g4 : binOp .add 128 (.int .u64 (x2 : Int)) (.int .u64 (b0 : Int)) = pure (.int .u64 (x3 : Int)) := by rw [hx3]; exact op_add _ x2 b0
              have g5 : binOp .mul 128 (.int .u64 (p : Int)) (.int .u64 (v : Int)) = pure (.int .u64 (x4 : Int)) := by rw [hx4]; exact op_mul _ p v
              have g6 : binOp .sub 128 (.int .u64 (x3 : Int)) (.int .u64 (x4 : Int)) = pure (.int .u64 (rr : Int)) := by rw [hrr]; exact op_sub _ x3 x4 (by rw [hx4]; exact Nat.mod_lt _ LB_pos)
              have g7 : binOp .shr 128 (.int .u64 (rr : Int)) (.int .u64 (s : Int)) = pure (.int .u64 (rs : Int)) := by rw [hrs]; exact op_shr _ _ rr s (by omega)
              clear FIN0 hx1 hqt hx2 hx3 hx4 hrr hrs
              go_wp2
              go_ret2
              exact ⟨ret_two (by rw [FIN.out.1]) (by rw [FIN.out.2]), 0, rfl⟩
            · have k1 := op_geq_f 128 (Nat.lt_of_not_le hbr)
              have RL := hide (Nat.lt_of_not_le hbr)
              have DD := hide ds'
              have RR := hide (meas_lt hr' dv.v1_pos hrl)
              clear ds ds' hpq hr' hbr dv av bl hrl
              go_wp2
              go_round
              case rel => exact ⟨p, r', rfl, rfl, DD.out, RL.out⟩
              case measure => exact RR.out
          · have hqn : q < HB := Nat.lt_of_not_le hq
            obtain ⟨m1, hm1⟩ : ∃ m, m = q * v0 := ⟨_, rfl⟩
            obtain ⟨m2, hm2⟩ : ∃ m, m = HB * r := ⟨_, rfl⟩
            obtain ⟨m3, hm3⟩ : ∃ m, m = m2 + b0 := ⟨_, rfl⟩
            have l1 : m1 < LB := by
              rw [hm1, ← HB_sq]
              exact Nat.mul_lt_mul'' hqn dv.hv0
            have l3 : m3 < LB := by
              have h1 : HB * (r + 1) ≤ HB * HB := Nat.mul_le_mul_left _ hrl
              rw [Nat.mul_add, Nat.mul_one, HB_sq] at h1
              omega
            have o1 : binOp .mul 128 (.int .u64 (q : Int)) (.int .u64 (v0 : Int)) = pure (.int .u64 (m1 : Int)) := op_mul_lt _ q v0 m1 hm1 l1
            have o2 : binOp .mul 128 (.int .u64 4294967296) (.int .u64 (r : Int)) = pure (.int .u64 (m2 : Int)) := op_mul_lt _ HB r m2 hm2 (by omega)
            have o3 : binOp .add 128 (.int .u64 (m2 : Int)) (.int .u64 (b0 : Int)) = pure (.int .u64 (m3 : Int)) := op_add_lt _ m2 b0 m3 hm3 l3
            by_cases ht : m3 < m1
            · obtain ⟨p, r', hpq, hr', ds'⟩ := step (.inr (by rw [← hm2, ← hm3, ← hm1]; exact ht))
              have hlt := op_geq_f 128 hqn
              have tg := op_gtr_t 128 ht
              clear step hm1 hm2 hm3 l1 l3 hq hqn ht
              have o4 : binOp .sub 128 (.int .u64 (q : Int)) (.int .u64 1) = pure (.int .u64 (p : Int)) := op_sub_le _ q 1 p hpq (by have := ds.le; rw [HB_eq] at this; rw [LB_eq]; omega)
              have o5 : binOp .add 128 (.int .u64 (r : Int)) (.int .u64 (v1 : Int)) = pure (.int .u64 (r' : Int)) := op_add_lt _ r v1 r' hr' (by have h1 := dv.hv1; rw [HB_eq] at hrl h1; rw [LB_eq]; omega)
              by_cases hbr : HB ≤ r'
              · have HP := hide (show p = (un * HB + b0) / v by rw [dv.hv]; exact DS.full ds' dv.v1_pos dv.hv0 (by have := ds.le; omega) hbr)
                have k1 := op_geq_t 128 hbr
                clear ds ds' hpq hr' hbr dv av bl hrl
                have FIN0 := hide (DV.out.fin2 HP1.out HUN.out HP.out (by rw [HP1.out]; exact DV.out.p_lt) (by rw [HP.out]; exact DV.out.p0_lt HUN.out))
                obtain ⟨x1, hx1⟩ : ∃ x, x = mulW P1 HB := ⟨_, rfl⟩
                obtain ⟨qt, hqt⟩ : ∃ x, x = addW x1 p := ⟨_, rfl⟩
                obtain ⟨x2, hx2⟩ : ∃ x, x = mulW un HB := ⟨_, rfl⟩
                obtain ⟨x3, hx3⟩ : ∃ x, x = addW x2 b0 := ⟨_, rfl⟩
                obtain ⟨x4, hx4⟩ : ∃ x, x = mulW p v := ⟨_, rfl⟩
                obtain ⟨rr, hrr⟩ : ∃ x, x = subW x3 x4 := ⟨_, rfl⟩
                obtain ⟨rs, hrs⟩ : ∃ x, x = shrW rr s := ⟨_, rfl⟩
                have FIN := hide (show qt = dvQ hi lo y ∧ rs = dvR hi lo y by rw [hqt, hx1, hrs, hrr, hx3, hx2, hx4]; exact FIN0.out)
                have g1 : binOp .mul 128 (.int .u64 (P1 : Int)) (.int .u64 4294967296) = pure (.int .u64 (x1 : Int)) := by rw [hx1]; exact op_mul _ P1 HB
                have g2 : binOp .add 128 (.int .u64 (x1 : Int)) (.int .u64 (p : Int)) = pure (.int .u64 (qt : Int)) := by rw [hqt]; exact op_add _ x1 p
                have g3 : binOp .mul 128 (.int .u64 (un : Int)) (.int .u64 4294967296) = pure (.int .u64 (x2 : Int)) := by rw [hx2]; exact op_mul _ un HB
                have g4 : binOp .add 128 (.int .u64 (x2 : Int)) (.int .u64 (b0 : Int)) = pure (.int .u64 (x3 : Int)) := by rw [hx3]; exact op_add _ x2 b0
                have g5 : binOp .mul 128 (.int .u64 (p : Int)) (.int .u64 (v : Int)) = pure (.int .u64 (x4 : Int)) := by rw [hx4]; exact op_mul _ p v
                have g6 : binOp .sub 128 (.int .u64 (x3 : Int)) (.int .u64 (x4 : Int)) = pure (.int .u64 (rr : Int)) := by rw [hrr]; exact op_sub _ x3 x4 (by rw [hx4]; exact Nat.mod_lt _ LB_pos)
                have g7 : binOp .shr 128 (.int .u64 (rr : Int)) (.int .u64 (s : Int)) = pure (.int .u64 (rs : Int)) := by rw [hrs]; exact op_shr _ _ rr s (by omega)
                clear FIN0 hx1 hqt hx2 hx3 hx4 hrr hrs
                go_wp2
                go_ret2
                exact ⟨ret_two (by rw [FIN.out.1]) (by rw [FIN.out.2]), 0, rfl⟩
              · have k1 := op_geq_f 128 (Nat.lt_of_not_le hbr)
                have RL := hide (Nat.lt_of_not_le hbr)
                have DD := hide ds'
                have RR := hide (meas_lt hr' dv.v1_pos hrl)
                clear ds ds' hpq hr' hbr dv av bl hrl
                go_wp2
                go_round
                case rel => exact ⟨p, r', rfl, rfl, DD.out, RL.out⟩
                case measure => exact RR.out
            · have HP := hide (show q = (un * HB + b0) / v by rw [dv.hv]; exact DS.fits ds dv.v1_pos (by rw [← hm2, ← hm3, ← hm1]; omega))
              have hlt := op_geq_f 128 hqn
              have tg := op_gtr_f 128 (Nat.le_of_not_lt ht)
              obtain ⟨p, rfl⟩ : ∃ p, p = q := ⟨_, rfl⟩
              clear step hm1 hm2 hm3 l1 l3 hq ds ht hqn dv av bl hrl
              have FIN0 := hide (DV.out.fin2 HP1.out HUN.out HP.out (by rw [HP1.out]; exact DV.out.p_lt) (by rw [HP.out]; exact DV.out.p0_lt HUN.out))
              obtain ⟨x1, hx1⟩ : ∃ x, x = mulW P1 HB := ⟨_, rfl⟩
              obtain ⟨qt, hqt⟩ : ∃ x, x = addW x1 p := ⟨_, rfl⟩
              obtain ⟨x2, hx2⟩ : ∃ x, x = mulW un HB := ⟨_, rfl⟩
              obtain ⟨x3, hx3⟩ : ∃ x, x = addW x2 b0 := ⟨_, rfl⟩
              obtain ⟨x4, hx4⟩ : ∃ x, x = mulW p v := ⟨_, rfl⟩
              obtain ⟨rr, hrr⟩ : ∃ x, x = subW x3 x4 := ⟨_, rfl⟩
              obtain ⟨rs, hrs⟩ : ∃ x, x = shrW rr s := ⟨_, rfl⟩
              have FIN := hide (show qt = dvQ hi lo y ∧ rs = dvR hi lo y by rw [hqt, hx1, hrs, hrr, hx3, hx2, hx4]; exact FIN0.out)
              have g1 : binOp .mul 128 (.int .u64 (P1 : Int)) (.int .u64 4294967296) = pure (.int .u64 (x1 : Int)) := by rw [hx1]; exact op_mul _ P1 HB
              have g2 : binOp .add 128 (.int .u64 (x1 : Int)) (.int .u64 (p : Int)) = pure (.int .u64 (qt : Int)) := by rw [hqt]; exact op_add _ x1 p
              have g3 : binOp .mul 128 (.int .u64 (un : Int)) (.int .u64 4294967296) = pure (.int .u64 (x2 : Int)) := by rw [hx2]; exact op_mul _ un HB
              have g4 : binOp .add 128 (.int .u64 (x2 : Int)) (.int .u64 (b0 : Int)) = pure (.int .u64 (x3 : Int)) := by rw [hx3]; exact op_add _ x2 b0
              have g5 : binOp .mul 128 (.int .u64 (p : Int)) (.int .u64 (v : Int)) = pure (.int .u64 (x4 : Int)) := by rw [hx4]; exact op_mul _ p v
              have g6 : binOp .sub 128 (.int .u64 (x3 : Int)) (.int .u64 (x4 : Int)) = pure (.int .u64 (rr : Int)) := by rw [hrr]; exact op_sub _ x3 x4 (by rw [hx4]; exact Nat.mod_lt _ LB_pos)
              have g7 : binOp .shr 128 (.int .u64 (rr : Int)) (.int .u64 (s : Int)) = pure (.int .u64 (rs : Int)) := by rw [hrs]; exact op_shr _ _ rr s (by omega)
              clear FIN0 hx1 hqt hx2 hx3 hx4 hrr hrs
              go_wp2
              go_ret2
              exact ⟨ret_two (by rw [FIN.out.1]) (by rw [FIN.out.2]), 0, rfl⟩
end
section
open Go.RowKit
theorem lenW_zero : lenW 0 = 0 := by unfold lenW; decide
theorem lenW_half (x : Nat) (h0 : x ≠ 0) (h : x < LB) : lenW x = 1 + lenW (x / 2) := Lib.bitLen_half x h0 h
theorem lenW_bounds : ∀ x : Nat, x < LB → x < 2 ^ lenW x ∧ (x ≠ 0 → 2 ^ lenW x ≤ 2 * x) := by
  intro x
  induction x using Nat.strongRecOn with
  | _ x ih =>
    intro hx
    by_cases h0 : x = 0
    · subst h0; rw [lenW_zero]; simp
    · have h1 := lenW_half x h0 hx
      obtain ⟨h2, h3⟩ := ih (x / 2) (by omega) (by omega)
      rw [h1, Nat.pow_add, Nat.pow_one]
      refine ⟨by omega, fun _ => ?_⟩
      by_cases h4 : x / 2 = 0
      · rw [h4, lenW_zero]; simp; omega
      · have := h3 h4
        omega
theorem lenW_pos {x : Nat} (h0 : x ≠ 0) (h : x < LB) : 1 ≤ lenW x := by rw [lenW_half x h0 h]; omega
theorem lzW_shift {y : Nat} (h0 : y ≠ 0) (h : y < LB) : lzW y ≤ 63 ∧ y * 2 ^ lzW y < LB ∧ LB ≤ 2 * (y * 2 ^ lzW y) := by
  obtain ⟨h1, h2⟩ := lenW_bounds y h
  have h3 := lenW_le y h
  have h4 := lenW_pos h0 h
  have e : 2 ^ lenW y * 2 ^ lzW y = LB := by
    rw [← Nat.pow_add, show lenW y + lzW y = 64 by unfold lzW; omega]; rfl
  have hp : 0 < 2 ^ lzW y := Nat.pow_pos (by omega)
  refine ⟨by unfold lzW; omega, ?_, ?_⟩
  · rw [← e]; exact Nat.mul_lt_mul_of_pos_right h1 hp
  · rw [← e, ← Nat.mul_assoc]; exact Nat.mul_le_mul_right _ (h2 h0)
theorem or_disjoint {x y s : Nat} (hy : y < 2 ^ s) : x * 2 ^ s ||| y = x * 2 ^ s + y := by
  rw [Nat.mul_comm]
  exact (Nat.two_pow_add_eq_or_of_lt hy x).symm
theorem shl_two {hi lo y s t : Nat} (hlo : lo < LB) (hts : t + s = 64) (hy : hi < y) (hyv : y * 2 ^ s < LB) :
    orW (shlW hi s) (shrW lo t) * LB + shlW lo s = (hi * LB + lo) * 2 ^ s ∧ orW (shlW hi s) (shrW lo t) < y * 2 ^ s := by
  have hp : 0 < 2 ^ s := Nat.pow_pos (by omega)
  have hpt : 0 < 2 ^ t := Nat.pow_pos (by omega)
  have e : 2 ^ t * 2 ^ s = LB := by rw [← Nat.pow_add, hts]; rfl
  have h1 : hi * 2 ^ s < y * 2 ^ s := Nat.mul_lt_mul_of_pos_right hy hp
  have h2 : lo / 2 ^ t < 2 ^ s := by rw [Nat.div_lt_iff_lt_mul hpt, Nat.mul_comm, e]; exact hlo
  have h3 : (hi + 1) * 2 ^ s ≤ y * 2 ^ s := Nat.mul_le_mul_right _ hy
  rw [Nat.add_mul, Nat.one_mul] at h3
  have e1 : orW (shlW hi s) (shrW lo t) = hi * 2 ^ s + lo / 2 ^ t := by
    unfold orW shlW shrW
    rw [Nat.mod_eq_of_lt (by omega), or_disjoint h2]
  rw [e1]
  refine ⟨?_, by omega⟩
  have e2 : lo = 2 ^ t * (lo / 2 ^ t) + lo % 2 ^ t := (Nat.div_add_mod _ _).symm
  have e3 : lo * 2 ^ s = LB * (lo / 2 ^ t) + lo % 2 ^ t * 2 ^ s := by
    have : lo * 2 ^ s = (2 ^ t * (lo / 2 ^ t) + lo % 2 ^ t) * 2 ^ s := by rw [← e2]
    rw [this, Nat.add_mul, Nat.mul_right_comm, e]
  have h4 : lo % 2 ^ t * 2 ^ s < LB := by rw [← e]; exact Nat.mul_lt_mul_of_pos_right (Nat.mod_lt _ hpt) hp
  have e4 : shlW lo s = lo % 2 ^ t * 2 ^ s := by
    unfold shlW
    rw [e3, Nat.mul_add_mod, Nat.mod_eq_of_lt h4]
  rw [e4, Nat.add_mul, Nat.add_mul, e3, Nat.mul_right_comm hi, Nat.mul_comm (lo / 2 ^ t)]
  omega
theorem dv_make {hi lo y : Nat} (hy : hi < y) (hyL : y < LB) (hlo : lo < LB) :
    Dv hi lo y (lzW y) (shlW y (lzW y)) (shrW (shlW y (lzW y)) 32) (andW (shlW y (lzW y)) 4294967295) (orW (shlW hi (lzW y)) (shrW lo (64 - lzW y))) (shlW lo (lzW y)) (shrW (shlW lo (lzW y)) 32) (andW (shlW lo (lzW y)) 4294967295) := by
  obtain ⟨hs, hv, ht⟩ := lzW_shift (y := y) (by omega) hyL
  obtain ⟨h1, h2⟩ := shl_two (hi := hi) (s := lzW y) (t := 64 - lzW y) hlo (by omega) hy hv
  have ev : shlW y (lzW y) = y * 2 ^ lzW y := Nat.mod_eq_of_lt hv
  have hand : ∀ x, andW x 4294967295 = x % HB := fun x => Nat.and_two_pow_sub_one_eq_mod x 32
  have hshr : ∀ x, shrW x 32 = x / HB := fun x => rfl
  have hsplit : ∀ x, x = x / HB * HB + x % HB := fun x => by rw [Nat.mul_comm]; exact (Nat.div_add_mod _ _).symm
  have hHB : 0 < HB := by rw [HB_eq]; omega
  have hdiv : ∀ x, x < LB → x / HB < HB := fun x hx => by rw [Nat.div_lt_iff_lt_mul hHB, HB_sq]; exact hx
  have hlo' : shlW lo (lzW y) < LB := Nat.mod_lt _ LB_pos
  refine ⟨?_, ev, ?_, ?_, ?_, h1, ?_, ?_, ?_, ?_⟩
  · rw [hand, hshr]; exact hsplit _
  · rw [hand]; exact Nat.mod_lt _ hHB
  · rw [hshr]; exact hdiv _ (by rw [ev]; exact hv)
  · rw [hshr, ev]
    rw [LB_eq] at ht
    rw [HB_eq]
    omega
  · rw [hand, hshr]; exact hsplit _
  · rw [hshr]; exact hdiv _ hlo'
  · rw [hand]; exact Nat.mod_lt _ hHB
  · rw [ev]; exact h2
theorem div64 (hi lo y : Nat) (hy : hi < y) (hyL : y < LB) (hlo : lo < LB) (w : World) :
    Calls Tryz.prog 153 #[.int .u64 (hi : Int), .int .u64 (lo : Int), .int .u64 (y : Int)] w (Quiet w (.tuple #[.int .u64 ((dvQ hi lo y : Nat) : Int), .int .u64 ((dvR hi lo y : Nat) : Int)])) := by
  by_cases h0 : hi = 0
  · subst h0
    exact div64_zero lo y (by omega) hlo w
  · have dv := dv_make hy hyL hlo
    obtain ⟨hs, hv, _⟩ := lzW_shift (y := y) (by omega) hyL
    have ha : orW (shlW hi (lzW y)) (shrW lo (64 - lzW y)) < LB := Nat.lt_trans dv.hav dv.v_lt
    have hm : orW (shlW hi (lzW y)) (shrW lo (64 - lzW y)) / (shrW (shlW y (lzW y)) 32) * (shrW (shlW y (lzW y)) 32) ≤ orW (shlW hi (lzW y)) (shrW lo (64 - lzW y)) := Nat.div_mul_le_self _ _
    have hu10 : shlW lo (lzW y) < LB := Nat.mod_lt _ LB_pos
    have av : orW (shlW hi (lzW y)) (shrW lo (64 - lzW y)) < shrW (shlW y (lzW y)) 32 * HB + andW (shlW y (lzW y)) 4294967295 := by rw [← dv.hv]; exact dv.hav
    have hsl : shrW lo (64 - lzW y) < LB := Nat.lt_of_le_of_lt (Nat.div_le_self _ _) hlo
    refine div64_big hi lo y (lzW y) _ _ _ (64 - lzW y) _ _ _ _ _ _ (quoW (orW (shlW hi (lzW y)) (shrW lo (64 - lzW y))) (shrW (shlW y (lzW y)) 32)) _ (orW (shlW hi (lzW y)) (shrW lo (64 - lzW y)) - quoW (orW (shlW hi (lzW y)) (shrW lo (64 - lzW y))) (shrW (shlW y (lzW y)) 32) * (shrW (shlW y (lzW y)) 32)) (by omega) hy hyL w dv hs (by omega) rfl
      (op_shl _ _ y _ (by omega)) (op_shr _ _ _ 32 (by omega)) (op_and _ _ 4294967295 dv.v_lt (by rw [LB_eq]; omega)) (op_shl _ _ hi _ (by omega))
      (op_sub_le _ 64 _ _ (by omega) (by rw [LB_eq]; omega)) (op_shr _ _ lo _ (by omega)) (op_or _ _ _ (Nat.mod_lt _ LB_pos) hsl) (op_shl _ _ lo _ (by omega))
      (op_shr _ _ _ 32 (by omega)) (op_and _ _ 4294967295 hu10 (by rw [LB_eq]; omega)) (op_quo _ _ _ ha dv.v1_pos) (op_mul_lt _ _ _ _ rfl (Nat.lt_of_le_of_lt hm ha)) (DS.start dv.hvt dv.hv0 av dv.hb1) ?_ (op_sub_le _ _ _ _ (Nat.sub_add_cancel hm) ha)
    have h2 := Nat.div_add_mod (orW (shlW hi (lzW y)) (shrW lo (64 - lzW y))) (shrW (shlW y (lzW y)) 32)
    have h3 := Nat.mod_lt (orW (shlW hi (lzW y)) (shrW lo (64 - lzW y))) dv.v1_pos
    have h4 := dv.hv1
    unfold quoW
    rw [Nat.mul_comm] at h2
    omega
theorem dvQ_lt {hi lo y : Nat} (hy : hi < y) (hlo : lo < LB) : dvQ hi lo y < LB := by
  unfold dvQ
  refine Nat.div_lt_of_lt_mul ?_
  have : (hi + 1) * LB ≤ y * LB := Nat.mul_le_mul_right _ hy
  rw [Nat.add_mul, Nat.one_mul] at this
  omega
theorem dvR_lt {hi lo y : Nat} (hy : hi < y) : dvR hi lo y < y := Nat.mod_lt _ (by omega)
theorem dv_eq (hi lo y : Nat) : y * dvQ hi lo y + dvR hi lo y = hi * LB + lo := Nat.div_add_mod _ _
end
end Nt
end Go.Proofs.YthabfakbdfaciaaGreat
