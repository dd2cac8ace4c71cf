
/-
  limbs.Sub, nat.Sub.
-/
import Derived.Test.YtgimmmmpollkhaaGreatNCmp
import Derived.Test.YtgimmmmpollkhaaGreatNMath3
import Derived.Deep.RegionHeld3
namespace Go.Proofs.YtgimmmmpollkhaaGreat

open Go.RowKit

namespace Nt

theorem trim_n (A : Option Addr) (n c : Nat) (xs : List Nat) (w : World) (hx : xs.length = n) (hs : Sl w A xs) (hl : n ≤ c) (hn : n ≤ 1000000) :
    Calls Tryz.prog 149 #[.slice A n c] w fun e w' => e = .returned (.slice A (trimz xs).length c) ∧ w = w' := by
  subst hx
  exact trim_any A c xs w hs hl hn
theorem Own.trim {w : World} {base g cap : Nat} {xs : List Nat} (h : Own w base g cap xs) : Own w base g cap (trimz xs) := by
  have := h.take (trimz xs).length
  rwa [trimz_prefix] at this

set_option maxRecDepth 100000 in
set_option maxHeartbeats 1000000 in
theorem lsub_ok (A B : Option Addr) (c d : Nat) (xs ys : List Nat) (w : World) (hx : Sl w A xs) (hy : Sl w B ys) (lx : Limbs xs) (ly : Limbs ys)
   (hl : xs.length ≤ 10000) (hm : ys.length ≤ xs.length) (hle : val ys ≤ val xs) (n : Nat) (hn : xs.length = n) :
    Calls Tryz.prog 154 #[.slice A xs.length c, .slice B ys.length d] w (New w (digs (val xs - val ys))) := by
  have hmk : ∀ W : World, (Instr.makeSlice 23 (.int .i64 (n : Int)) (.int .i64 (n : Int))).run Tryz.prog W = .ok (.slice (some ⟨W.heap.size, 0, none⟩) n n) (W.alloc (.cells (madeCells #[.int .u64 0] n) 119)) :=
    fun W => run_make_u64 .i64 .i64 n n (by omega) (by omega) W
  have nb : n ≤ 10000 := by omega
  subst hn
  go_enter Tryz.func154, Tryz.ntmps154
  go_wp2
  have M := hide (Own.made (n := xs.length) w (Nat.le_refl _) (Nat.le_refl xs.length) (by unfold maxLen; omega))
  clear hmk
  go_loopw [6, 13] (fun cy i wr => ∃ k cc cs, k ≤ xs.length ∧ i = .int .i64 (k : Nat) ∧ cy = .int .u64 (cc : Nat) ∧ SubInv xs ys k cc cs ∧ Own wr w.heap.size w.heap.size xs.length (cs ++ List.replicate (xs.length - k) 0) ∧ Below w.heap.size w wr) (fun _ i _ => xs.length - (intOf i).toNat)
  case atStart => exact ⟨0, 0, [], Nat.zero_le _, rfl, rfl, SubInv.zero _ _, by simpa using M.out, (Below.refl _ _).alloc (Nat.le_refl _) _⟩
  case round =>
    obtain ⟨k, cc, cs, hk, rfl, rfl, ai, ho, hb⟩ := hrel
    by_cases hlt : k < xs.length
    · have hxr := hx.below hb (Nat.le_refl _)
      have hyr := hy.below hb (Nat.le_refl _)
      obtain ⟨b, o, rfl, ha0⟩ := hx.at_ (by omega)
      have ha := ha0.below hb ha0.lt
      have hbw := ha0.lt
      have hcx := ha.cell (j := k) (by omega)
      have hlen := ai.1
      have hcc := ai.2.2.1
      have hcell := ho.cell (j := k) (by simp; omega)
      have hfr := ho.frozen k
      have hst := ho.set k (difL (lim xs k) (lim ys k) cc)
      rw [set_grow' _ hlen hlt] at hst
      have S := hide hst
      have I := hide (ai.step lx ly)
      have BB := hide hb
      have LM := hide (fun W (hW : Sl W B ys) => limb_any B d ys k W hW (by omega) (by omega))
      have YR := hide hyr
      have hcs := hide (fun u => (show (wr.setCell ⟨w.heap.size, k, none⟩ u).drew.cell? ⟨b, o + k, none⟩ = some (.int .u64 ((lim xs k : Nat) : Int)) from
        (World.cell?_setCell_other wr _ _ u (by intro e; injection e with e _; omega)).trans hcx))
      clear hst hlen ho ai hb hyr hxr ha ha0
      go_wp2_with fail
      go_region_held3 (fun w' => w'.cell? ⟨b, o + k, none⟩ = some (.int .u64 ((lim xs k : Nat) : Int))) (first | exact hcs.out _ | go_keep)
        (first | (go_at_call 159; refine (LM.out _ YR.out.drew).mono ?_; rintro e w' ⟨rfl, rfl⟩) | simp only [sub64 _ _ cc hcc])
      go_wp2
      go_roundw
      case rel => exact ⟨k + 1, _, _, by omega, by go_num, rfl, I.out, S.out, (BB.out.setCell (Nat.le_refl _) _).drew⟩
      case measure => simp [intOf]; omega
    · obtain rfl : k = xs.length := by omega
      rw [Nat.sub_self, List.replicate_zero, List.append_nil] at ho
      obtain ⟨hv, hL, hlen⟩ := ai.done rfl hm hle
      have T := hide (trim_n _ _ xs.length cs wr hlen ho.sl (Nat.le_refl _) (by omega))
      have RR := hide ho.trim
      have BB := hide hb
      have D := hide (show digs (val xs - val ys) = trimz cs by rw [← hv]; exact digs_val hL)
      clear ho ai hb hv hL hlen
      go_wp2_with (go_at_call 149; (with_reducible refine (T.out).mono ?_); rintro ee w2 ⟨rfl, rfl⟩)
      go_ret
      exact New.mk D.out rfl RR.out BB.out
theorem lsub_any (A B : Option Addr) (c d : Nat) (xs ys : List Nat) (w : World) (hx : Sl w A xs) (hy : Sl w B ys) (lx : Limbs xs) (ly : Limbs ys) (ny : Norm ys)
   (hl : xs.length ≤ 10000) (hle : val ys ≤ val xs) :
    Calls Tryz.prog 154 #[.slice A xs.length c, .slice B ys.length d] w (New w (digs (val xs - val ys))) :=
  lsub_ok A B c d xs ys w hx hy lx ly hl (len_le_of_val lx ny hle) hle _ rfl

end Nt

end Go.Proofs.YtgimmmmpollkhaaGreat
