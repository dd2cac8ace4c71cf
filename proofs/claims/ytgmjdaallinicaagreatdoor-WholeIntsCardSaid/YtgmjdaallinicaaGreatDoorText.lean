
/-
  nat.groupsOf, nat.Text.
-/
import Derived.Test.YtgmjdaallinicaaGreatDoorMathG

import Derived.Test.YtgmjdaallinicaaGreatDoorDivide

namespace Go.Proofs.YtgmjdaallinicaaGreatDoor

open Go.RowKit

namespace Nt

theorem dwR_GB (xs : List Nat) : dwR xs GB = val xs % GB := (dw_val (by decide)).2
theorem dwQ_GB (xs : List Nat) : val (dwQ xs GB) = val xs / GB := (dw_val (by decide)).1

/-- One group more. -/
theorem grps_step {N m : Nat} {cs : List Nat} (h : cs ++ (if m = 0 then [] else grps m) = grps N) (hm : m ≠ 0) : (cs ++ [m % GB]) ++ (if m / GB = 0 then [] else grps (m / GB)) = grps N := by
  rw [if_neg hm] at h
  rw [← h, List.append_assoc]
  congr 1
  by_cases hs : m < GB
  · rw [grps_small hs, if_pos (Nat.div_eq_of_lt hs), Nat.mod_eq_of_lt hs]; rfl
  · have : m / GB ≠ 0 := by
      have : 0 < m / GB := Nat.div_pos (by omega) (by decide)
      omega
    rw [grps_big hs, if_neg this]; rfl
theorem grps_start (N : Nat) : [N % GB] ++ (if N / GB = 0 then [] else grps (N / GB)) = grps N := by
  by_cases hs : N < GB
  · rw [grps_small hs, if_pos (Nat.div_eq_of_lt hs), Nat.mod_eq_of_lt hs]; rfl
  · have : N / GB ≠ 0 := by
      have : 0 < N / GB := Nat.div_pos (by omega) (by decide)
      omega
    rw [grps_big hs, if_neg this]; rfl
theorem grps_len' {xs : List Nat} {n : Nat} (lx : Limbs xs) (h : xs.length ≤ n) : (grps (val xs)).length ≤ 2 * n + 1 := by
  refine grps_len ?_
  refine Nat.lt_of_lt_of_le (val_lt lx) ?_
  have h1 : LB ≤ GB ^ 2 := by decide
  have h2 : LB ^ xs.length ≤ (GB ^ 2) ^ xs.length := Nat.pow_le_pow_left h1 _
  rw [← Nat.pow_mul] at h2
  exact Nat.le_trans h2 (Nat.pow_le_pow_right (by decide) (by omega))

/-- A number's lowest group. -/
def gmod (n : Nat) : Nat := n % GB
theorem dword_nil_G (A : Option Addr) (c : Nat) (w : World) :
    Calls Tryz.prog 80 #[.slice A 0 c, .int .u64 10000000000000000000] w fun e w' => e = .returned (.int .u64 0) ∧ w = w' := dword_nil A c GB w
theorem dword_at_G (b o c n : Nat) (xs : List Nat) (w : World) (hn : xs.length = n) (h : At w b o xs) (hf : Free w b o n) (lx : Limbs xs) (hl : n ≤ 100000) :
    Calls Tryz.prog 80 #[.slice (some ⟨b, o, none⟩) n c, .int .u64 10000000000000000000] w fun e w' => e = .returned (.int .u64 ((gmod (val xs) : Nat) : Int)) ∧ At w' b o (dwQ xs GB) ∧ Wrote w w' b o n := by
  unfold gmod
  rw [← dwR_GB]
  exact dword_at b o c GB n xs w hn h hf lx (by decide) GB_lt hl
theorem At.sl_trim {w : World} {b o : Nat} {xs : List Nat} (h : At w b o xs) : At w b o (trimz xs) := by
  refine ⟨h.1, fun j hj => ?_⟩
  have hl := trimz_len_le xs
  rw [h.2 j (by omega), ← trimz_prefix, lim_take hj]
/-- A row of words just laid by a literal. -/
theorem Row.lit {base : Nat} (w : World) (x : Nat) (hb : base ≤ w.heap.size) : Row (w.alloc (.cells #[.int .u64 (x : Int)] 60)) base (some ⟨w.heap.size, 0, none⟩) 1 1 [x] :=
  (Own.mk (cur := #[lv x]) hb (heap_alloc_new w _) (Nat.le_refl _) (by simp only [maxLen, List.length_singleton]; omega) rfl rfl).row rfl
theorem Row.lit0 {base : Nat} (w : World) (hb : base ≤ w.heap.size) : Row (w.alloc (.cells #[.int .u64 0] 60)) base (some ⟨w.heap.size, 0, none⟩) 1 1 [0] := Row.lit w 0 hb

theorem trim_nil (A : Option Addr) (c : Nat) (w : World) :
    Calls Tryz.prog 53 #[.slice A 0 c] w fun e w' => e = .returned (.slice A 0 c) ∧ w = w' := trim_n A 0 c [] w rfl .nil (Nat.zero_le _) (Nat.zero_le _)
set_option maxRecDepth 100000 in
set_option maxHeartbeats 400000 in
theorem groups_nil (A : Option Addr) (c : Nat) (w : World) :
    Calls Tryz.prog 101 #[.slice A 0 c] w (Mk w [0]) := by
  go_enter Tryz.func101, Tryz.ntmps101
  go_wp2_with (first
    | (at_builtin; refine app_any _ rfl (.const (.slice none 0 0)) (.tmp 5) rfl w.heap.size 0 0 0 c none A [] [] rfl (Row.nil _ _) rfl .nil rfl (by omega) (Nat.le_refl _) ?_; intro A1 c1 w1 hr1 hg1; have hb1 : Below w.heap.size w w1 := (Below.refl _ _).grown hg1 (Nat.le_refl _) (Row.nil w _).ownBlock)
    | (go_at_call 80; (with_reducible refine (dword_nil_G _ _ _).mono ?_); rintro ee w2 ⟨rfl, rfl⟩)
    | (go_at_call 53; (with_reducible refine (trim_nil _ _ _).mono ?_); rintro ee w2 ⟨rfl, rfl⟩))
  refine wp_loop_rounds 1 ?_
  rw [rounds_succ]
  go_wp2
  go_ret
  exact Mk.intro (Row.lit0 w1 hb1.size) (hb1.alloc hb1.size _) rfl

set_option maxRecDepth 100000 in
set_option maxHeartbeats 1000000 in
theorem groups_at (A : Option Addr) (c n : Nat) (xs : List Nat) (w : World) (hn : xs.length = n) (hs : Sl w A xs) (lx : Limbs xs) (hp : 0 < n) (hl : n ≤ 1000) :
    Calls Tryz.prog 101 #[.slice A n c] w (Mk w (grps (val xs))) := by
  have GL := hide (grps_len' lx (Nat.le_of_eq hn))
  have HN := hide hn
  clear hn
  go_enter Tryz.func101, Tryz.ntmps101
  go_wp2_with (first
    | (at_builtin; refine app_any _ rfl (.const (.slice none 0 0)) (.tmp 5) rfl w.heap.size 0 0 n c none A [] xs rfl (Row.nil _ _) rfl hs HN.out (by omega) (Nat.le_refl _) ?_; intro A1 c1 w1 hr1 hg1; obtain ⟨g, rfl, ho⟩ := hr1.pos (by omega); have hb1 : Below w.heap.size w w1 := (Below.refl _ _).grown hg1 (Nat.le_refl _) (Row.nil w _).ownBlock; clear hr1 hg1)
    | (go_at_call 80; (with_reducible refine (dword_at_G _ _ _ _ xs _ HN.out ho.at_ (ho.free _) lx (by omega)).mono ?_); rintro ee w2 ⟨rfl, hat2, hw2⟩)
    | (go_at_call 53; (with_reducible refine (trim_n _ _ _ (dwQ xs GB) _ (by rw [dwQ_len]; exact HN.out) (Sl.mk (hat2.alloc _)) (by have := ho.le; rw [List.nil_append, HN.out] at this; exact this) (by omega)).mono ?_); rintro ee w3 ⟨rfl, rfl⟩))
  go_loopw [3, 4] (fun rs gs wr => ∃ (zs : List Nat) (k : Nat) (cs : List Nat) (Ag : Option Addr) (ng cg : Nat), rs = .slice (some ⟨g, 0, none⟩) k c1 ∧ zs.length = k ∧ k ≤ n ∧ At wr g 0 zs ∧ Free wr g 0 n ∧ Limbs zs ∧ Norm zs ∧ gs = .slice Ag ng cg ∧ Row wr w2.heap.size Ag ng cg cs ∧ cs ++ (if val zs = 0 then [] else grps (val zs)) = grps (val xs) ∧ Below w.heap.size w wr ∧ w2.heap.size ≤ wr.heap.size) (fun _ gs _ => match gs with | .slice _ m _ => (grps (val xs)).length - m | _ => 0)
  case atStart =>
    have hl := dwQ_limbs (d := GB) (by decide) lx
    have hlen := Nat.le_trans (trimz_len_le (dwQ xs GB)) (Nat.le_of_eq (dwQ_len xs GB))
    have hv := val_trimz hl
    refine ⟨trimz (dwQ xs GB), _, [gmod (val xs)], _, _, _, rfl, rfl, Nat.le_trans hlen (Nat.le_of_eq HN.out), (hat2.alloc _).sl_trim, ?_, limbs_trimz hl, norm_trimz hl, rfl, Row.lit w2 _ (Nat.le_refl _), ?_, ?_, by simp⟩
    · exact ((ho.free n).wrote hw2).alloc hat2.lt _
    · rw [hv, dwQ_GB]; exact grps_start _
    · exact (hb1.trans (hw2.below ho.base_le hb1.size)).alloc (Nat.le_trans hb1.size hw2.size) _
  case round =>
    obtain ⟨zs, k, cs, Ag, ng, cg, rfl, hzk, hkn, hat, hfr, hlz, hnz, rfl, hrg, hgr, hb, hB2⟩ := hrel
    have hgB : g < w2.heap.size := hat2.lt
    have hw2s := hw2.size
    have hb1s := hb1.size
    have hcap : n ≤ c1 := by have := ho.le; rw [List.nil_append, HN.out] at this; exact this
    by_cases h0 : k = 0
    · subst h0
      have hz : zs = [] := List.eq_nil_of_length_eq_zero hzk
      subst hz
      rw [val_nil, if_pos rfl, List.append_nil] at hgr
      have R := hide (hrg.rebase (Nat.le_trans hb1.size hw2.size))
      have E := hide hgr
      have BB := hide hb
      clear hat hfr hlz hnz hrg hgr hb hB2 hzk hat2 hw2
      go_wp2
      go_ret
      exact Mk.intro R.out BB.out E.out.symm
    · have hvz : val zs ≠ 0 := by
        intro e
        have := (val_eq_zero hlz hnz).1 e
        subst this
        exact h0 (by simpa using hzk.symm)
      have hng : ng < (grps (val xs)).length := by
        rw [← hgr, if_neg hvz, List.length_append, hrg.len]
        have : 0 < (grps (val zs)).length := List.length_pos_iff.2 (grps_ne _)
        omega
      have S := hide (grps_step hgr hvz)
      have NG := hide hng
      have ng1 : ng ≤ 1000000 := by have := GL.out; omega
      have D := hide (dword_at_G g 0 c1 k zs wr hzk hat (hfr.sub (Nat.le_refl _) (by omega)) hlz (by omega))
      have hlq := dwQ_limbs (d := GB) (by decide) hlz
      have HZ := hide hzk
      have HF := hide hfr
      have RG := hide hrg
      have BB := hide hb
      have LQ := hide hlq
      have hk0 : 0 < k := by omega
      clear hat hfr hlz hnz hrg hgr hb hvz hlq hzk h0 hng hat2 hw2
      go_wp2_with (first
        | (go_at_call 80; (with_reducible refine (D.out).mono ?_); rintro ee w4 ⟨rfl, hat4, hw4⟩)
        | (at_builtin; refine app_one _ rfl (.tmp 17) (.tmp 20) rfl w2.heap.size ng cg (gmod (val zs)) Ag cs rfl (Row.alloc (RG.out.keep (w' := w4) fun q hq => hw4.grown.block _ (RG.out.lt q hq).2 (by intro e; injection e with e; have := (RG.out.lt q hq).1; omega)) _) ⟨w4.heap.size, 0, none⟩ 1 rfl (by rw [World.cell?_alloc_at _ _ _ _ rfl]; rfl) ng1 (by simp; have := hw4.size; omega) ?_; intro g5 c5 w5 hr5 hg5)
        | (go_at_call 53; (with_reducible refine (trim_n _ _ _ (dwQ zs GB) _ (by rw [dwQ_len]; exact HZ.out) (Sl.mk ((hat4.alloc (.cells #[.int .u64 ((gmod (val zs) : Nat) : Int)] 60)).grown hg5 (fun e => by have := RG.out.ownBlock g e.symm; omega))) (by omega) (by omega)).mono ?_); rintro ee w6 ⟨rfl, rfl⟩))
      go_roundw
      case rel =>
        have hne : ∀ q, (Value.slice Ag ng cg).ownBlock = some q → q ≠ g := fun q hq => by have := RG.out.ownBlock q hq; omega
        have hat5 := (hat4.alloc (.cells #[.int .u64 ((gmod (val zs) : Nat) : Int)] 60)).grown hg5 (fun e => hne g e.symm rfl)
        have hb4 := BB.out.trans (hw4.below (B := w.heap.size) ho.base_le BB.out.size)
        have hb5 := (hb4.alloc hb4.size (.cells #[.int .u64 ((gmod (val zs) : Nat) : Int)] 60)).grown hg5 (by simp; have := hb4.size; omega) (fun q hq => by have := RG.out.ownBlock q hq; omega)
        refine ⟨trimz (dwQ zs GB), _, _, _, _, _, rfl, rfl, ?_, hat5.sl_trim, ?_, limbs_trimz LQ.out, norm_trimz LQ.out, rfl, hr5, ?_, hb5, ?_⟩
        · have := trimz_len_le (dwQ zs GB)
          rw [dwQ_len, HZ.out] at this
          omega
        · exact ((HF.out.wrote hw4).alloc hat4.lt _).grown (by simp; have := hat4.lt; omega) hg5 (fun e => hne g e.symm rfl)
        · rw [val_trimz LQ.out, dwQ_GB]; exact S.out
        · have := hg5.size; have := hw4.size; simp at *; omega
      case measure => (have := NG.out; show (grps (val xs)).length - (ng + 1) < (grps (val xs)).length - ng; omega)
end Nt

end Go.Proofs.YtgmjdaallinicaaGreatDoor
