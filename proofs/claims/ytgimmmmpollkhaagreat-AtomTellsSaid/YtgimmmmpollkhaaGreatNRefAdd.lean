
/-
  The reference's add, sub, AddNat, SubNat.
-/
import Derived.Test.YtgimmmmpollkhaaGreatNRefTrim
import Derived.Test.YtgimmmmpollkhaaGreatNCmp
import Derived.Test.YtgimmmmpollkhaaGreatNMath3
namespace Go.Proofs.YtgimmmmpollkhaaGreat

open Go.RowKit

namespace Nt

theorem rtrim_n (A : Option Addr) (n c : Nat) (xs : List Nat) (w : World) (hx : xs.length = n) (hs : Sl w A xs) (hl : n ≤ c) (hn : n ≤ 100000) :
    Calls Tryz.prog 93 #[.slice A n c] w (Mk w (trimz xs)) := by
  subst hx
  exact rtrim_any A c xs w hs hl hn

set_option maxRecDepth 100000 in
set_option maxHeartbeats 1000000 in
theorem radd_any (A B : Option Addr) (c d : Nat) (xs ys : List Nat) (w : World) (hx : Sl w A xs) (hy : Sl w B ys) (lx : Limbs xs) (ly : Limbs ys) (hl : xs.length ≤ 10000) (hl' : ys.length ≤ 10000) (n : Nat) (hn : max xs.length ys.length = n) :
    Calls Tryz.prog 155 #[.slice A xs.length c, .slice B ys.length d] w (Mk w (digs (val xs + val ys))) := by
  have nb : n ≤ 10000 := by omega
  have n1 : xs.length ≤ n := by omega
  have n2 : ys.length ≤ n := by omega
  have n3 : n ≤ xs.length ∨ n ≤ ys.length := by omega
  have H := hide hn
  clear hn
  go_enter Tryz.func155, Tryz.ntmps155
  go_wp2
  go_loopw [5, 6, 7] (fun out cy i wr => ∃ k cc cs C e, k ≤ n ∧ i = .int .i64 (k : Nat) ∧ cy = .int .u64 (cc : Nat) ∧ out = .slice C k e ∧ AddInv xs ys k cc cs ∧ Row wr w.heap.size C k e cs ∧ Below w.heap.size w wr) (fun _ _ i _ => n - (intOf i).toNat)
  case atStart => exact ⟨0, 0, [], none, 0, Nat.zero_le _, rfl, rfl, rfl, AddInv.zero _ _, Row.nil _ _, Below.refl _ _⟩
  case round =>
    obtain ⟨k, cc, cs, C, e, hk, rfl, rfl, rfl, ai, ho, hb⟩ := hrel
    by_cases hlt : k < n
    · have hcc := ai.2.2.1
      have I := hide (ai.step lx ly)
      have O := hide ho
      have BB := hide hb
      have hxr := hx.below hb (Nat.le_refl _)
      have hyr := hy.below hb (Nat.le_refl _)
      clear ho ai hb
      by_cases h1 : k < xs.length
      · obtain ⟨b, o, rfl, ha⟩ := hxr.at_ (by omega)
        have hcx := ha.cell h1
        by_cases h2 : k < ys.length
        · obtain ⟨b', o', rfl, ha'⟩ := hyr.at_ (by omega)
          have hcy := ha'.cell h2
          clear ha ha' hxr hyr
          go_wp2_with (first
            | simp only [add64 _ _ cc hcc]
            | (at_builtin; refine app_one _ rfl (.tmp 47) (.tmp 49) rfl w.heap.size k e (sumL (lim xs k) (lim ys k) cc) C cs rfl (O.out.alloc _) ⟨wr.heap.size, 0, none⟩ 1 rfl (by rw [World.cell?_alloc_at _ _ _ _ rfl]; rfl) (by omega) (by simp; have := BB.out.size; omega) ?_; intro g1 c1 w1 hr1 hg1))
          go_roundw
          case rel => exact ⟨k + 1, _, _, _, _, by omega, by go_num, rfl, rfl, I.out, hr1, (BB.out.alloc BB.out.size _).grown hg1 (by simp; have := BB.out.size; omega) O.out.ownBlock⟩
          case measure => simp [intOf]; omega
        · rw [lim_none (xs := ys) (by omega)] at I
          have h2' : ys.length ≤ k := by omega
          clear ha hxr hyr h2
          go_wp2_with (first
            | simp only [add64_r0 _ cc hcc]
            | (at_builtin; refine app_one _ rfl (.tmp 47) (.tmp 49) rfl w.heap.size k e (sumL (lim xs k) 0 cc) C cs rfl (O.out.alloc _) ⟨wr.heap.size, 0, none⟩ 1 rfl (by rw [World.cell?_alloc_at _ _ _ _ rfl]; rfl) (by omega) (by simp; have := BB.out.size; omega) ?_; intro g1 c1 w1 hr1 hg1))
          go_roundw
          case rel => exact ⟨k + 1, _, _, _, _, by omega, by go_num, rfl, rfl, I.out, hr1, (BB.out.alloc BB.out.size _).grown hg1 (by simp; have := BB.out.size; omega) O.out.ownBlock⟩
          case measure => simp [intOf]; omega
      · obtain ⟨b', o', rfl, ha'⟩ := hyr.at_ (by omega)
        have hcy := ha'.cell (j := k) (by omega)
        rw [lim_none (xs := xs) (by omega)] at I
        have h1' : xs.length ≤ k := by omega
        have h2 : k < ys.length := by omega
        clear ha' hxr hyr h1
        go_wp2_with (first
          | simp only [add64_l0 _ cc hcc]
          | (at_builtin; refine app_one _ rfl (.tmp 47) (.tmp 49) rfl w.heap.size k e (sumL 0 (lim ys k) cc) C cs rfl (O.out.alloc _) ⟨wr.heap.size, 0, none⟩ 1 rfl (by rw [World.cell?_alloc_at _ _ _ _ rfl]; rfl) (by omega) (by simp; have := BB.out.size; omega) ?_; intro g1 c1 w1 hr1 hg1))
        go_roundw
        case rel => exact ⟨k + 1, _, _, _, _, by omega, by go_num, rfl, rfl, I.out, hr1, (BB.out.alloc BB.out.size _).grown hg1 (by simp; have := BB.out.size; omega) O.out.ownBlock⟩
        case measure => simp [intOf]; omega
    · obtain rfl : k = n := by omega
      have he := ai.end_eq H.out
      have hL := ai.2.1
      have hlen := hide ai.1
      have hcc := ai.2.2.1
      by_cases hc0 : cc = 0
      · subst hc0
        have E := hide (show digs (val xs + val ys) = trimz cs by
          simp only [Nat.mul_zero, Nat.add_zero] at he
          rw [← digs_val hL, he])
        have T := hide (rtrim_n C k e cs wr hlen.out ho.sl ho.le (by omega))
        have BB := hide hb
        clear ho ai hb he
        go_wp2_with (go_at_call 93; (with_reducible refine (T.out).mono ?_); rintro ee w2 ⟨A2, c2, rfl, hr2, hb2⟩)
        go_ret
        exact Mk.trans BB.out (by rw [E.out]; exact ⟨_, _, rfl, hr2, hb2⟩)
      · obtain rfl : cc = 1 := by omega
        have E := hide (show digs (val xs + val ys) = trimz (cs ++ [1]) by
          rw [← digs_val (hL.append (.one (by rw [LB_eq]; omega))), val_append, val_one, ai.1, he])
        have O := hide ho
        have BB := hide hb
        clear ho ai hb he
        go_wp2_with (first
          | (at_builtin; refine app_one _ rfl (.tmp 54) (.tmp 56) rfl w.heap.size k e 1 C cs rfl (O.out.alloc _) ⟨wr.heap.size, 0, none⟩ 1 rfl (by rw [World.cell?_alloc_at _ _ _ _ rfl]; rfl) (by omega) (by simp; have := BB.out.size; omega) ?_; intro g1 c1 w1 hr1 hg1)
          | (go_at_call 93; (with_reducible refine (rtrim_n _ _ _ _ _ hr1.len hr1.sl hr1.le (by omega)).mono ?_); rintro ee w2 ⟨A2, c2, rfl, hr2, hb2⟩))
        go_ret
        exact Mk.trans ((BB.out.alloc BB.out.size _).grown hg1 (by simp; have := BB.out.size; omega) O.out.ownBlock) (by rw [E.out]; exact ⟨_, _, rfl, hr2, hb2⟩)

set_option maxRecDepth 100000 in
set_option maxHeartbeats 1000000 in
theorem rsub_any (A B : Option Addr) (c d : Nat) (xs ys : List Nat) (w : World) (hx : Sl w A xs) (hy : Sl w B ys) (lx : Limbs xs) (ly : Limbs ys) (hl : xs.length ≤ 10000) (hm : ys.length ≤ xs.length) (hle : val ys ≤ val xs) :
    Calls Tryz.prog 142 #[.slice A xs.length c, .slice B ys.length d] w (Mk w (digs (val xs - val ys))) := by
  generalize hn : xs.length = n at *
  have H := hide hn
  clear hn
  go_enter Tryz.func142, Tryz.ntmps142
  go_wp2
  go_loopw [5, 6, 7] (fun out cy i wr => ∃ k cc cs C e, k ≤ n ∧ i = .int .i64 (k : Nat) ∧ cy = .int .u64 (cc : Nat) ∧ out = .slice C k e ∧ SubInv xs ys k cc cs ∧ Row wr w.heap.size C k e cs ∧ Below w.heap.size w wr) (fun _ _ i _ => n - (intOf i).toNat)
  case atStart => exact ⟨0, 0, [], none, 0, Nat.zero_le _, rfl, rfl, rfl, SubInv.zero _ _, Row.nil _ _, Below.refl _ _⟩
  case round =>
    obtain ⟨k, cc, cs, C, e, hk, rfl, rfl, rfl, ai, ho, hb⟩ := hrel
    by_cases hlt : k < n
    · have hcc := ai.2.2.1
      have I := hide (ai.step lx ly)
      have O := hide ho
      have BB := hide hb
      have hxr := hx.below hb (Nat.le_refl _)
      have hyr := hy.below hb (Nat.le_refl _)
      clear ho ai hb
      obtain ⟨b, o, rfl, ha⟩ := hxr.at_ (by rw [H.out]; omega)
      have hcx := ha.cell (j := k) (by rw [H.out]; omega)
      by_cases h2 : k < ys.length
      · obtain ⟨b', o', rfl, ha'⟩ := hyr.at_ (by omega)
        have hcy := ha'.cell h2
        clear ha ha' hxr hyr
        go_wp2_with (first
          | simp only [sub64 _ _ cc hcc]
          | (at_builtin; refine app_one _ rfl (.tmp 35) (.tmp 37) rfl w.heap.size k e (difL (lim xs k) (lim ys k) cc) C cs rfl (O.out.alloc _) ⟨wr.heap.size, 0, none⟩ 1 rfl (by rw [World.cell?_alloc_at _ _ _ _ rfl]; rfl) (by omega) (by simp; have := BB.out.size; omega) ?_; intro g1 c1 w1 hr1 hg1))
        go_roundw
        case rel => exact ⟨k + 1, _, _, _, _, by omega, by go_num, rfl, rfl, I.out, hr1, (BB.out.alloc BB.out.size _).grown hg1 (by simp; have := BB.out.size; omega) O.out.ownBlock⟩
        case measure => simp [intOf]; omega
      · rw [lim_none (xs := ys) (by omega)] at I
        have h2' : ys.length ≤ k := by omega
        clear ha hxr hyr h2
        go_wp2_with (first
          | simp only [sub64_r0 _ cc hcc]
          | (at_builtin; refine app_one _ rfl (.tmp 35) (.tmp 37) rfl w.heap.size k e (difL (lim xs k) 0 cc) C cs rfl (O.out.alloc _) ⟨wr.heap.size, 0, none⟩ 1 rfl (by rw [World.cell?_alloc_at _ _ _ _ rfl]; rfl) (by omega) (by simp; have := BB.out.size; omega) ?_; intro g1 c1 w1 hr1 hg1))
        go_roundw
        case rel => exact ⟨k + 1, _, _, _, _, by omega, by go_num, rfl, rfl, I.out, hr1, (BB.out.alloc BB.out.size _).grown hg1 (by simp; have := BB.out.size; omega) O.out.ownBlock⟩
        case measure => simp [intOf]; omega
    · obtain rfl : k = n := by omega
      obtain ⟨hv, hL, hlen⟩ := ai.done H.out hm hle
      have E : Hid (digs (val xs - val ys) = trimz cs) := by rw [← hv]; exact digs_val hL
      have T := hide (rtrim_n C k e cs wr hlen ho.sl ho.le (by omega))
      have BB := hide hb
      clear ho ai hb hv hL hlen
      go_wp2_with (go_at_call 93; (with_reducible refine (T.out).mono ?_); rintro ee w2 ⟨A2, c2, rfl, hr2, hb2⟩)
      go_ret
      exact Mk.trans BB.out (by rw [E.out]; exact ⟨_, _, rfl, hr2, hb2⟩)

end Nt

end Go.Proofs.YtgimmmmpollkhaaGreat
