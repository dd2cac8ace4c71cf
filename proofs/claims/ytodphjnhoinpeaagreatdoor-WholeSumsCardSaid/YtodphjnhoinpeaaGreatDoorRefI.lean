/-
  The reference's whole numbers: whole, OfInt, ValidInt, cmpInt, CmpInt.
-/
import Derived.Test.YtodphjnhoinpeaaGreatDoorWholeA
import Derived.Test.YtodphjnhoinpeaaGreatDoorINum
import Derived.Test.YtodphjnhoinpeaaGreatDoorRefTrim
import Derived.Test.YtodphjnhoinpeaaGreatDoorMathO
namespace Go.Proofs.YtodphjnhoinpeaaGreatDoor
open Go.RowKit
namespace Nt

set_option maxHeartbeats 400000 in
theorem rwhole_any (s : Bool) (A : Option Addr) (n c : Nat) (w : World) (hn : n ≤ 9223372036854775807) :
    Calls Tryz.prog 64 #[.bool s, .slice A n c] w fun e w' => e = .returned (.agg #[.bool (s && decide (0 < n)), .slice A n c]) ∧ Below w.heap.size w w' := by
  cases s with
  | false =>
    go_enter Tryz.func64, Tryz.ntmps64
    go_wp2
    exact bodyPost_ret (v := .agg #[.bool false, .slice A n c]) (by simp [results, Tryz.results64, go_sem]) rfl ⟨rfl, ((Below.refl _ _).alloc (Nat.le_refl _) _)⟩
  | true =>
    by_cases h0 : n = 0
    · subst h0
      go_enter Tryz.func64, Tryz.ntmps64
      go_wp2
      exact bodyPost_ret (v := .agg #[.bool false, .slice A 0 c]) (by simp [results, Tryz.results64, go_sem]) rfl ⟨rfl, ((Below.refl _ _).alloc (Nat.le_refl _) _)⟩
    · have hp : 0 < n := by omega
      have E := hide (show (true && decide (0 < n)) = true by simp [hp])
      clear h0
      go_enter Tryz.func64, Tryz.ntmps64
      go_wp2
      exact bodyPost_ret (v := .agg #[.bool true, .slice A n c]) (by simp [results, Tryz.results64, go_sem]) rfl ⟨by rw [E.out], ((Below.refl _ _).alloc (Nat.le_refl _) _)⟩

set_option maxHeartbeats 400000 in
theorem rvalidI_any (s : Bool) (A : Option Addr) (c : Nat) (xs : List Nat) (w : World) (hs : Sl w A xs) (hl : xs.length ≤ 9223372036854775807) :
    Calls Tryz.prog 37 #[.agg #[.bool s, .slice A xs.length c]] w fun e w' => e = .returned (.bool (validI s xs)) ∧ Below w.heap.size w w' := by
  have V := hide (fun W (h : Sl W A xs) => rvalid_any A c xs W h hl)
  have HS := hide hs
  clear hs
  cases hv : validB xs with
  | false =>
    have E := hide (show validI s xs = false by unfold validI; rw [hv]; rfl)
    rw [hv] at V
    clear hv
    generalize xs.length = n at *
    go_enter Tryz.func37, Tryz.ntmps37
    go_wp2_with (go_at_call 45; (with_reducible refine (V.out _ (HS.out.alloc _)).mono ?_); rintro e w' ⟨rfl, rfl⟩)
    go_ret
    exact ⟨ret_bool E.out.symm, ((Below.refl _ _).alloc (Nat.le_refl _) _)⟩
  | true =>
    have E := hide (show validI s xs = (!s || decide (0 < xs.length)) by unfold validI; rw [hv]; rfl)
    rw [hv] at V
    clear hv
    generalize xs.length = n at *
    by_cases h0 : n = 0
    · subst h0
      cases s <;>
      · go_enter Tryz.func37, Tryz.ntmps37
        go_wp2_with (go_at_call 45; (with_reducible refine (V.out _ (HS.out.alloc _)).mono ?_); rintro e w' ⟨rfl, rfl⟩)
        go_ret
        exact ⟨ret_bool (by rw [E.out]; rfl), ((Below.refl _ _).alloc (Nat.le_refl _) _)⟩
    · have hp : 0 < n := by omega
      have E2 := hide (show (!s || decide (0 < n)) = true by simp [hp])
      clear h0
      cases s <;>
      · go_enter Tryz.func37, Tryz.ntmps37
        go_wp2_with (go_at_call 45; (with_reducible refine (V.out _ (HS.out.alloc _)).mono ?_); rintro e w' ⟨rfl, rfl⟩)
        go_ret
        exact ⟨ret_bool (by rw [E.out, E2.out]), ((Below.refl _ _).alloc (Nat.le_refl _) _)⟩

theorem litZ (w : World) (v : Int) (k : Nat) (h : v = (k : Int)) {g : Nat} (hg : w.heap.size = g) : Sl (w.alloc (.cells #[.int .u64 v] 56)) (some ⟨g, 0, none⟩) [k] := by
  subst h; exact litSl _ _ [k] rfl hg
theorem conv_pos {n : Nat} (h : n ≤ 9223372036854775807) : IntKind.u64.wrap (n : Int) = (n : Int) := by rw [IntKind.wrap_u64]; omega

set_option maxRecDepth 100000 in
set_option maxHeartbeats 1000000 in
theorem rofI_any (z : Int) (w : World) (h1 : -9223372036854775808 ≤ z) (h2 : z ≤ 9223372036854775807) :
    Calls Tryz.prog 29 #[.int .i64 z] w (IOne w (mkI z)) := by
  have X := hide (cells2 w (.bool false) (.slice none 0 0) 41)
  by_cases h : z < 0
  · have hk : z.natAbs < LB := by rw [LB_eq]; omega
    have E := hide (show mkI z = (true && decide (0 < (trimz [z.natAbs]).length), trimz [z.natAbs]) by
      rw [← digs_word hk]
      have hp : 0 < (digs z.natAbs).length := digs_len_pos.2 (by omega)
      unfold mkI isg idg
      rw [decide_eq_true h, decide_eq_true hp]; rfl)
    have nw := neg_wrap h h1
    have T : Hid (∀ A W, Sl W A [z.natAbs] → Calls Tryz.prog 66 #[.slice A 1 1] W (Mk W (trimz [z.natAbs]))) := fun A W hs => rtrim_any A 1 [z.natAbs] W hs (Nat.le_refl _) (by simp)
    have L := hide (show (trimz [z.natAbs]).length ≤ 9223372036854775807 from Nat.le_trans (trimz_len_le _) (by simp))
    go_enter Tryz.func29, Tryz.ntmps29
    go_wp2_with (first
      | (go_at_call 66; (with_reducible refine (T.out _ _ (litZ _ _ _ rfl (size1 _ _))).mono ?_); rintro e w1 ⟨A3, c3, rfl, r3, hb⟩; have g := bl_one hb; have x1 := cell_next g X.out.1; have x2 := cell_next g X.out.2.1; have x3 := frozen_next g X.out.1 X.out.2.2.1; have x4 := frozen_next g X.out.2.1 X.out.2.2.2; have s3 := hide r3.sl; have b1 := bl_one g; clear r3 hb g)
      | (go_at_call 64; (with_reducible refine (rwhole_any true A3 _ c3 _ L.out).mono ?_); rintro e w2 ⟨rfl, hb⟩; have x3 := frozen_next hb x1 x3; have x4 := frozen_next hb x2 x4; have x1 := cell_next hb x1; have x2 := cell_next hb x2; have s4 := hide (bl_keeps hb _ _ s3.out); have b2 := bl_trans b1 hb; clear hb))
    exact bodyPost_ret (v := .agg #[.bool (true && decide (0 < (trimz [z.natAbs]).length)), .slice A3 (trimz [z.natAbs]).length c3]) (by simp [results, Tryz.results29, go_sem, x1, x2]) rfl (IOne.mk E.out rfl (s4.out.store2 x1 x2 _ _) (Below.store2 b2 (Nat.le_refl _) _ _))
  · obtain ⟨n, rfl⟩ : ∃ n : Nat, z = (n : Int) := ⟨z.toNat, by omega⟩
    have hk : n < LB := by rw [LB_eq]; omega
    have E := hide (show mkI (n : Int) = (false && decide (0 < (trimz [n]).length), trimz [n]) by
      rw [← digs_word hk]
      unfold mkI isg idg
      rw [decide_eq_false h, Int.natAbs_natCast]; rfl)
    have nw := conv_pos (show n ≤ 9223372036854775807 by omega)
    have T : Hid (∀ A W, Sl W A [n] → Calls Tryz.prog 66 #[.slice A 1 1] W (Mk W (trimz [n]))) := fun A W hs => rtrim_any A 1 [n] W hs (Nat.le_refl _) (by simp)
    have L := hide (show (trimz [n]).length ≤ 9223372036854775807 from Nat.le_trans (trimz_len_le _) (by simp))
    go_enter Tryz.func29, Tryz.ntmps29
    go_wp2_with (first
      | (go_at_call 66; (with_reducible refine (T.out _ _ (litZ _ _ _ rfl (size1 _ _))).mono ?_); rintro e w1 ⟨A3, c3, rfl, r3, hb⟩; have g := bl_one hb; have x1 := cell_next g X.out.1; have x2 := cell_next g X.out.2.1; have x3 := frozen_next g X.out.1 X.out.2.2.1; have x4 := frozen_next g X.out.2.1 X.out.2.2.2; have s3 := hide r3.sl; have b1 := bl_one g; clear r3 hb g)
      | (go_at_call 64; (with_reducible refine (rwhole_any false A3 _ c3 _ L.out).mono ?_); rintro e w2 ⟨rfl, hb⟩; have x3 := frozen_next hb x1 x3; have x4 := frozen_next hb x2 x4; have x1 := cell_next hb x1; have x2 := cell_next hb x2; have s4 := hide (bl_keeps hb _ _ s3.out); have b2 := bl_trans b1 hb; clear hb))
    exact bodyPost_ret (v := .agg #[.bool (false && decide (0 < (trimz [n]).length)), .slice A3 (trimz [n]).length c3]) (by simp [results, Tryz.results29, go_sem, x1, x2]) rfl (IOne.mk E.out rfl (s4.out.store2 x1 x2 _ _) (Below.store2 b2 (Nat.le_refl _) _ _))

/-- Comparing two of a sign each. -/
def cmpSg (s : Bool) (x : Nat) (t : Bool) (y : Nat) : Int := if s = t then (if s then -cmpN x y else cmpN x y) else (if s then -1 else 1)
theorem cmpSg_ok {s t : Bool} {xs ys : List Nat} (lx : Limbs xs) (ly : Limbs ys) (hs : validI s xs = true) (ht : validI t ys = true) : cmpSg s (val xs) t (val ys) = cmpISp s xs t ys := by
  unfold cmpSg
  cases s <;> cases t
  · rw [cmpI_pp hs ht, cmpSp_ok (validI_B hs) (validI_B ht)]; rfl
  · rw [cmpI_pn ly hs ht]; rfl
  · rw [cmpI_np lx hs ht]; rfl
  · rw [cmpI_nn hs ht, cmpSp_ok (validI_B ht) (validI_B hs), cmpN_neg]
    simp

set_option maxRecDepth 100000 in
set_option maxHeartbeats 1000000 in
theorem rcmpS_any (s t : Bool) (A B : Option Addr) (c d : Nat) (xs ys : List Nat) (w : World) (hx : Sl w A xs) (hy : Sl w B ys) (lx : Limbs xs) (ly : Limbs ys) (nx : Norm xs) (ny : Norm ys) (hl : xs.length ≤ 1000000) (hl' : ys.length ≤ 1000000) :
    Calls Tryz.prog 68 #[.agg #[.bool s, .slice A xs.length c], .agg #[.bool t, .slice B ys.length d]] w fun e w' => e = .returned (.int .i64 (cmpSg s (val xs) t (val ys))) ∧ Below w.heap.size w w' := by
  have M := hide (fun W (h : Below w.heap.size w W) => rcmp_any A B c d xs ys W (bl_keeps h _ _ hx) (bl_keeps h _ _ hy) lx ly nx ny hl hl')
  have b0 : Below w.heap.size w ((w.alloc (.cells #[.bool s, .slice A xs.length c] 41)).alloc (.cells #[.bool t, .slice B ys.length d] 41)) := bl_al (bl_al (.refl _ _) _) _
  obtain ⟨x1, x2, x3, x4⟩ := Bx2.start s A xs.length c t B ys.length d w
  have hz : -1 ≤ cmpN (val xs) (val ys) ∧ cmpN (val xs) (val ys) ≤ 1 := by rcases cmpN_range (val xs) (val ys) with h | h | h <;> omega
  have E := hide (show cmpSg s (val xs) t (val ys) = if s = t then (if s then -cmpN (val xs) (val ys) else cmpN (val xs) (val ys)) else (if s then -1 else 1) from rfl)
  clear hx hy lx ly nx ny
  generalize cmpN (val xs) (val ys) = z at *
  generalize cmpSg s (val xs) t (val ys) = k at *
  generalize xs.length = n at *
  generalize ys.length = m at *
  have hw : IntKind.i64.wrap (-z) = -z := by rw [IntKind.wrap_i64]; omega
  have e1 : ∀ W, (binOp .neq 4 (.bool false) (.bool false)).run Tryz.prog W = .ok (.bool false) W := fun _ => by kernel_rfl
  have e2 : ∀ W, (binOp .neq 4 (.bool true) (.bool false)).run Tryz.prog W = .ok (.bool true) W := fun _ => by kernel_rfl
  have e3 : ∀ W, (binOp .neq 4 (.bool false) (.bool true)).run Tryz.prog W = .ok (.bool true) W := fun _ => by kernel_rfl
  have e4 : ∀ W, (binOp .neq 4 (.bool true) (.bool true)).run Tryz.prog W = .ok (.bool false) W := fun _ => by kernel_rfl
  cases s <;> cases t
  · go_enter Tryz.func68, Tryz.ntmps68
    go_wp2_with (go_at_call 83; (with_reducible refine (M.out _ b0).mono ?_); rintro e w3 ⟨rfl, q0, h0⟩; have b3 := bl_trans b0 (bl_q0 h0); clear h0)
    go_ret
    exact ⟨ret_one E.out.symm, b3⟩
  · go_enter Tryz.func68, Tryz.ntmps68
    go_wp2
    go_ret
    exact ⟨ret_one E.out.symm, b0⟩
  · go_enter Tryz.func68, Tryz.ntmps68
    go_wp2
    go_ret
    exact ⟨ret_one E.out.symm, b0⟩
  · go_enter Tryz.func68, Tryz.ntmps68
    go_wp2_with (go_at_call 83; (with_reducible refine (M.out _ b0).mono ?_); rintro e w3 ⟨rfl, q0, h0⟩; have b3 := bl_trans b0 (bl_q0 h0); clear h0)
    go_ret
    exact ⟨ret_one E.out.symm, b3⟩

set_option maxRecDepth 100000 in
set_option maxHeartbeats 1000000 in
theorem rcmpI_any (s t : Bool) (A B : Option Addr) (c d : Nat) (xs ys : List Nat) (w : World) (hx : Sl w A xs) (hy : Sl w B ys) (lx : Limbs xs) (ly : Limbs ys) (hl : xs.length ≤ 1000000) (hl' : ys.length ≤ 1000000) :
    Calls Tryz.prog 32 #[.agg #[.bool s, .slice A xs.length c], .agg #[.bool t, .slice B ys.length d]] w fun e w' => e = .returned (.int .i64 (cmpISp s xs t ys)) ∧ Below w.heap.size w w' := by
  have V1 := hide (fun W (h : Below w.heap.size w W) => rvalidI_any s A c xs W (bl_keeps h _ _ hx) (by omega))
  have V2 := hide (fun W (h : Below w.heap.size w W) => rvalidI_any t B d ys W (bl_keeps h _ _ hy) (by omega))
  have b0 : Below w.heap.size w ((w.alloc (.cells #[.bool s, .slice A xs.length c] 41)).alloc (.cells #[.bool t, .slice B ys.length d] 41)) := bl_al (bl_al (.refl _ _) _) _
  have X := hide (Bx2.start s A xs.length c t B ys.length d w)
  cases hv : validI s xs with
  | false =>
    have E := hide (cmpI_no (t := t) (ys := ys) (.inl hv))
    rw [hv] at V1
    clear hv V2 hx hy lx ly
    generalize xs.length = n at *
    generalize ys.length = m at *
    go_enter Tryz.func32, Tryz.ntmps32
    go_wp2_with (go_at_call 37; (with_reducible refine (V1.out _ b0).mono ?_); rintro e w1 ⟨rfl, hb⟩; have X := hide (X.out.next hb); obtain ⟨x1, x2, x3, x4⟩ := X.out; have b1 := bl_trans b0 hb; clear hb)
    go_ret
    exact ⟨ret_one E.out.symm, b1⟩
  | true =>
    cases hv2 : validI t ys with
    | false =>
      have E := hide (cmpI_no (s := s) (xs := xs) (.inr hv2))
      rw [hv] at V1
      rw [hv2] at V2
      clear hv hv2 hx hy lx ly
      generalize xs.length = n at *
      generalize ys.length = m at *
      go_enter Tryz.func32, Tryz.ntmps32
      go_wp2_with (first | (go_at_call 37; (with_reducible refine (V1.out _ b0).mono ?_); rintro e w1 ⟨rfl, hb⟩; have X := hide (X.out.next hb); obtain ⟨x1, x2, x3, x4⟩ := X.out; have b1 := bl_trans b0 hb; clear hb) | (go_at_call 37; (with_reducible refine (V2.out _ b1).mono ?_); rintro e w2 ⟨rfl, hb⟩; have X := hide (X.out.next hb); obtain ⟨x1, x2, x3, x4⟩ := X.out; have b2 := bl_trans b1 hb; clear hb))
      go_ret
      exact ⟨ret_one E.out.symm, b2⟩
    | true =>
      have E := hide (cmpSg_ok lx ly hv hv2)
      have M := hide (fun W (h : Below w.heap.size w W) => rcmpS_any s t A B c d xs ys W (bl_keeps h _ _ hx) (bl_keeps h _ _ hy) lx ly (validB_iff.1 (validI_B hv)).2 (validB_iff.1 (validI_B hv2)).2 hl hl')
      rw [hv] at V1
      rw [hv2] at V2
      clear hv hv2 hx hy lx ly
      generalize xs.length = n at *
      generalize ys.length = m at *
      go_enter Tryz.func32, Tryz.ntmps32
      go_wp2_with (first | (go_at_call 37; (with_reducible refine (V1.out _ b0).mono ?_); rintro e w1 ⟨rfl, hb⟩; have X := hide (X.out.next hb); obtain ⟨x1, x2, x3, x4⟩ := X.out; have b1 := bl_trans b0 hb; clear hb) | (go_at_call 37; (with_reducible refine (V2.out _ b1).mono ?_); rintro e w2 ⟨rfl, hb⟩; have X := hide (X.out.next hb); obtain ⟨x1, x2, x3, x4⟩ := X.out; have b2 := bl_trans b1 hb; clear hb) | (go_at_call 68; (with_reducible refine (M.out _ b2).mono ?_); rintro e w3 ⟨rfl, hb⟩; have b3 := bl_trans b2 hb; clear hb))
      go_ret
      exact ⟨ret_one E.out, b3⟩
end Nt
end Go.Proofs.YtodphjnhoinpeaaGreatDoor
