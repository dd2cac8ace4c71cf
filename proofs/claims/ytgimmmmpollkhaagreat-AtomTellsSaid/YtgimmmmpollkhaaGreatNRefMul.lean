
/-
  The reference's mul, MulNat.
-/
import Derived.Test.YtgimmmmpollkhaaGreatNRefAdd
import Derived.Test.YtgimmmmpollkhaaGreatNMath4
namespace Go.Proofs.YtgimmmmpollkhaaGreat

open Go.RowKit

namespace Nt

theorem quiet_left {P : Program} {f : FuncId} {args : Array Value} {w : World} {n : Nat} {v : Value}
    (h : Calls P f args (w.drewN n) fun e w' => e = .returned v ∧ w.drewN n = w') : Calls P f args (w.drewN n) fun e w' => e = .returned v ∧ ∃ m, w' = w.drewN m :=
  h.mono fun _ _ ⟨he, hm⟩ => ⟨he, n, hm.symm⟩

set_option maxRecDepth 100000 in
set_option maxHeartbeats 1000000 in
theorem rmul_any (A B : Option Addr) (c d : Nat) (xs ys : List Nat) (w : World) (hx : Sl w A xs) (hy : Sl w B ys) (lx : Limbs xs) (ly : Limbs ys) (hl : xs.length ≤ 10000) (hl' : ys.length ≤ 10000) (N : Nat) (hN : xs.length + ys.length = N) :
    Calls Tryz.prog 104 #[.slice A xs.length c, .slice B ys.length d] w (Mk w (digs (val xs * val ys))) := by
  have hmk : ∀ W : World, (Instr.makeSlice 23 (.int .i64 ((xs.length : Int) + (ys.length : Int))) (.int .i64 ((xs.length : Int) + (ys.length : Int)))).run Tryz.prog W = .ok (.slice (some ⟨W.heap.size, 0, none⟩) N N) (W.alloc (.cells (madeCells #[.int .u64 0] N) 119)) :=
    fun W => by
      have := run_make_u64 .i64 .i64 N N (by omega) (by omega) W
      rw [← hN] at this ⊢
      exact this
  have nb : N ≤ 20000 := by omega
  have n1 : xs.length + ys.length ≤ N := by omega
  have H := hide hN
  clear hN
  go_enter Tryz.func104, Tryz.ntmps104
  go_wp2
  have M := hide (Own.made (n := N) w (Nat.le_refl _) (Nat.le_refl N) (by unfold maxLen; omega))
  clear hmk
  go_loopw [6] (fun i wr => ∃ k out, k ≤ xs.length ∧ i = .int .i64 (k : Nat) ∧ MulOut xs ys N k out ∧ Own wr w.heap.size w.heap.size N out ∧ Below w.heap.size w wr) (fun i _ => xs.length - (intOf i).toNat)
  case atStart =>
    have hm := M.out
    exact ⟨0, _, Nat.zero_le _, rfl, MulOut.zero _ _ _, hm, (Below.refl _ _).alloc (Nat.le_refl _) _⟩
  case round =>
    obtain ⟨i, out, hi, rfl, mo, ho, hb⟩ := hrel
    by_cases hlt : i < xs.length
    · obtain ⟨wo, rfl⟩ : ∃ wo : World, wo = wr := ⟨_, rfl⟩
      have ST := hide (mo.start)
      have OO := hide ho
      have BB := hide hb
      clear mo ho hb
      go_wp2
      go_loopw [7, 8] (fun cy kk wr => ∃ k cc out, k ≤ ys.length ∧ kk = .int .i64 (k : Nat) ∧ cy = .int .u64 (cc : Nat) ∧ MulIn xs ys N i k cc out ∧ Own wr w.heap.size w.heap.size N out ∧ Below w.heap.size w wr) (fun _ kk _ => ys.length - (intOf kk).toNat)
      case atStart => exact ⟨0, 0, out, Nat.zero_le _, rfl, rfl, ST.out, OO.out, BB.out⟩
      case round =>
        obtain ⟨k, cc, out', hk, rfl, rfl, mi, ho, hb⟩ := hrel
        by_cases hk2 : k < ys.length
        · obtain ⟨b, o, rfl, ha0⟩ := hx.at_ (by omega)
          obtain ⟨b', o', rfl, ha0'⟩ := hy.at_ (by omega)
          have ha := ha0.below hb ha0.lt
          have ha' := ha0'.below hb ha0'.lt
          have hcx := ha.cell (j := i) (by omega)
          have hcy := ha'.cell (j := k) (by omega)
          have hcell := ho.cell (j := i + k) (by rw [mi.1]; omega)
          have hfr := ho.frozen (i + k)
          have MX := hide (fun W => mul64 (lim xs i) (lim ys k) (lx.get i) (ly.get k) W)
          have hst := hide (show Own (wr.setCell ⟨w.heap.size, i + k, none⟩ (.int .u64 ((sumL (sumL (lim out' (i + k)) (mulLo (lim xs i) (lim ys k)) 0) cc 0 : Nat) : Int))) w.heap.size w.heap.size N (out'.set (i + k) (maLo (lim xs i) (lim ys k) (lim out' (i + k)) cc)) from by
            rw [← rmul_lo]; exact ho.set _ _)
          have I := hide (mi.step lx ly hk2 (by omega))
          have WR := hide (rmul_wrap (lx.get i) (ly.get k) (mi.2.1.get (i + k)) mi.2.2.1)
          have BB' := hide hb
          clear ha ha' ha0 ha0' mi ho hb
          go_wp2_with fail
          go_quiet ((go_at_call 131; exact quiet_left (MX.out _)))
          go_wp2_with (simp only [add64_0])
          go_roundw
          case rel => exact ⟨k + 1, _, _, by omega, by go_num, by rw [WR.out], I.out, hst.out, Below.drewN' (BB'.out.setCell (Nat.le_refl _) _) _⟩
          case measure => simp [intOf]; omega
        · obtain rfl : k = ys.length := by omega
          have hcell := ho.cell (j := i + ys.length) (by rw [mi.1]; omega)
          have hfr := ho.frozen (i + ys.length)
          have S := hide (ho.set (i + ys.length) cc)
          have I := hide (mi.done (by omega))
          have BB' := hide hb
          clear mi ho hb
          go_wp2
          go_roundw
          case rel => exact ⟨i + 1, _, by omega, by go_num, I.out, S.out, BB'.out.setCell (Nat.le_refl _) _⟩
          case measure => simp [intOf]; omega
    · obtain rfl : i = xs.length := by omega
      obtain ⟨hd, hL, hlen⟩ := mo.done
      have T := hide (rtrim_n _ N N out wr hlen ho.sl (Nat.le_refl _) (by omega))
      have E := hide hd
      have BB := hide hb
      clear mo ho hb hd hL hlen
      go_wp2_with (go_at_call 93; (with_reducible refine (T.out).mono ?_); rintro ee w2 ⟨A2, c2, rfl, hr2, hb2⟩)
      go_ret
      exact Mk.trans BB.out (by rw [E.out]; exact ⟨_, _, rfl, hr2, hb2⟩)

end Nt

end Go.Proofs.YtgimmmmpollkhaaGreat
