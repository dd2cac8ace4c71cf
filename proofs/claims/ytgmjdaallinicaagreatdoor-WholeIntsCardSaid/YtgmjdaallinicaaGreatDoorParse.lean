
/-
  nat.allDigits, nat.appendGroup, nat.Parse.
-/
import Derived.Test.YtgmjdaallinicaaGreatDoorMathT

import Derived.Test.YtgmjdaallinicaaGreatDoorMath4

import Derived.Shelf.Strings.Trim

namespace Go.Proofs.YtgmjdaallinicaaGreatDoor

open Go.RowKit Go.Shelf

namespace Nt

theorem take_snoc (s : ByteArray) (k : Nat) (h : k < s.size) : s.data.toList.take (k + 1) = s.data.toList.take k ++ [s[k]] := by
  rw [List.take_succ_eq_append_getElem (by simpa using h)]; rfl
theorem getElem_mem_bytes (s : ByteArray) (k : Nat) (h : k < s.size) : s[k] ∈ s.data.toList :=
  List.mem_of_mem_take (i := k + 1) (by rw [take_snoc s k h]; simp)
theorem digitsB_false {s : ByteArray} {k : Nat} (h : k < s.size) (hd : isD s[k] = false) : digitsB s.data.toList = false := by
  unfold digitsB
  have : s.data.toList.all isD = false := by
    rw [List.all_eq_false]
    exact ⟨s[k], getElem_mem_bytes s k h, by rw [hd]; simp⟩
  rw [this]; rfl

set_option maxRecDepth 100000 in
set_option maxHeartbeats 400000 in
theorem allDigits_any (s : ByteArray) (w : World) (hs : s.size ≤ maxLen) :
    Calls Tryz.prog 76 #[.string s] w fun e w' => e = .returned (.bool (digitsB s.data.toList)) ∧ w = w' := by
  unfold maxLen at hs
  go_enter Tryz.func76, Tryz.ntmps76
  go_wp2
  go_loop [6] (fun i => ∃ k : Nat, k ≤ s.size ∧ i = .int .i64 k ∧ (s.data.toList.take k).all isD = true) (fun i => s.size - (intOf i).toNat)
  case atStart => exact ⟨0, Nat.zero_le _, rfl, rfl⟩
  case round =>
    obtain ⟨k, hk, rfl, hd⟩ := hrel
    by_cases hlt : k < s.size
    · have hsn := take_snoc s k hlt
      by_cases h1 : s[k].toNat < 48
      · have E := hide (show digitsB s.data.toList = false by
          refine digitsB_false (k := k) hlt ?_
          unfold isD; exact decide_eq_false (by omega))
        have h1' : (s[k].toNat : Int) < 48 := by omega
        clear hd hsn h1
        go_wp2
        go_ret
        exact ⟨ret_bool E.out.symm, rfl⟩
      · have h1' : (48 : Int) ≤ (s[k].toNat : Int) := by omega
        by_cases h2 : 57 < s[k].toNat
        · have E := hide (show digitsB s.data.toList = false by
            refine digitsB_false (k := k) hlt ?_
            unfold isD; exact decide_eq_false (by omega))
          have h2' : (57 : Int) < (s[k].toNat : Int) := by omega
          clear hd hsn h1 h2
          go_wp2
          go_ret
          exact ⟨ret_bool E.out.symm, rfl⟩
        · have h2' : (s[k].toNat : Int) ≤ 57 := by omega
          have H := hide (show (s.data.toList.take (k + 1)).all isD = true by
            rw [hsn, List.all_append, hd, Bool.true_and]
            have : isD s[k] = true := by unfold isD; exact decide_eq_true (by omega)
            simp [this])
          clear hd hsn h1 h2
          go_wp2
          go_round
          case rel => exact ⟨k + 1, by omega, by go_num, H.out⟩
          case measure => simp [intOf]; omega
    · obtain rfl : k = s.size := by omega
      have E := hide (show digitsB s.data.toList = decide (0 < s.size) by
        unfold digitsB
        rw [List.take_of_length_le (by rw [← Lib.size_eq]; exact Nat.le_refl _)] at hd
        rw [hd, Bool.true_and, Lib.size_eq]
        cases s.data.toList <;> simp)
      clear hd
      by_cases h0 : 0 < s.size
      · rw [decide_eq_true h0] at E
        go_wp2
        go_ret
        exact ⟨ret_bool E.out.symm, rfl⟩
      · have h0' : s.size ≤ 0 := by omega
        clear h0
        go_wp2
        go_ret
        exact ⟨ret_bool E.out.symm, rfl⟩

/-- 10^19. -/
def GB : Nat := 10000000000000000000
theorem GB_lt : GB < LB := by decide
theorem GB_pow : GB = 10 ^ 19 := rfl
def GrpInv (xs : List Nat) (v k c : Nat) (cs : List Nat) : Prop := cs.length = k ∧ Limbs cs ∧ c < LB ∧ val cs + LB ^ k * c = val (xs.take k) * GB + v
theorem GrpInv.step {xs cs : List Nat} {v k c : Nat} (lx : Limbs xs) (h : GrpInv xs v k c cs) : GrpInv xs v (k + 1) (maHi (lim xs k) GB c 0) (cs ++ [maLo (lim xs k) GB c 0]) := by
  obtain ⟨h1, h2, h3, h4⟩ := h
  refine ⟨by simp [h1], h2.append (.one (maLo_lt _ _ _ _)), maHi_lt _ _ _ _ (lx.get k) GB_lt h3 LB_pos, ?_⟩
  have hm := ma_eq (lim xs k) GB c 0
  rw [val_append, val_one, val_take_succ, h1, Nat.pow_succ, Nat.add_mul]
  have : LB ^ k * (maLo (lim xs k) GB c 0 + LB * maHi (lim xs k) GB c 0) = LB ^ k * (lim xs k * GB + c + 0) := by rw [hm]
  rw [Nat.mul_add, Nat.mul_add, Nat.mul_add, ← Nat.mul_assoc, ← Nat.mul_assoc, Nat.mul_zero] at this
  omega
theorem GrpInv.fin {xs cs : List Nat} {v n c : Nat} (hn : xs.length = n) (nx : Norm xs) (h : GrpInv xs v n c cs) : digs (val xs * GB + v) = if c = 0 then cs else cs ++ [c] := by
  obtain ⟨h1, h2, h3, h4⟩ := h
  rw [List.take_of_length_le (by omega)] at h4
  by_cases h0 : c = 0
  · subst h0
    rw [if_pos rfl, ← h4, Nat.mul_zero, Nat.add_zero]
    refine digs_val_norm h2 (norm_of_le h2 ?_)
    by_cases hc : cs = []
    · exact .inl hc
    · right
      have hx : xs ≠ [] := by
        rintro rfl
        simp only [List.length_nil] at hn
        exact hc (List.eq_nil_of_length_eq_zero (by omega))
      have := le_val nx hx
      rw [h1, ← hn]
      have h5 : val xs * 1 ≤ val xs * GB := Nat.mul_le_mul_left _ (by decide)
      omega
  · rw [if_neg h0, ← h4]
    have e : val cs + LB ^ n * c = val (cs ++ [c]) := by rw [val_append, val_one, h1]
    rw [e]
    exact digs_val_norm (h2.append (.one h3)) ((norm_snoc _ _).2 h0)
theorem set_drop {cs xs : List Nat} {k : Nat} (x : Nat) (hc : cs.length = k) (h : k < xs.length) : (cs ++ xs.drop k).set k x = (cs ++ [x]) ++ xs.drop (k + 1) := by
  subst hc
  rw [drop_cons_lim h, set_mid, List.append_assoc, List.singleton_append]

set_option maxRecDepth 100000 in
set_option maxHeartbeats 1000000 in
theorem group_any (A : Option Addr) (n c base : Nat) (xs : List Nat) (s : ByteArray) (w : World) (hr : Row w base A n c xs) (hbase : base ≤ w.heap.size) (lx : Limbs xs) (nx : Norm xs) (hl : n ≤ 100000)
    (hd : s.data.toList.all isD = true) (hs : s.size ≤ 19) :
    Calls Tryz.prog 100 #[.slice A n c, .string s] w fun e w' => ∃ A' c', e = .returned (.slice A' (digs (val xs * GB + decV s.data.toList)).length c') ∧ Row w' base A' (digs (val xs * GB + decV s.data.toList)).length c' (digs (val xs * GB + decV s.data.toList)) ∧ Below base w w' := by
  have hsz := Lib.size_eq s
  have hvl : ∀ k, decV (s.data.toList.take k) < GB := fun k => by
    have h1 : (s.data.toList.take k).all isD = true := by
      rw [List.all_eq_true] at hd ⊢
      exact fun x hx => hd x (List.mem_of_mem_take hx)
    refine Nat.lt_of_lt_of_le (decV_lt h1) ?_
    rw [GB_pow]
    exact Nat.pow_le_pow_right (by omega) (by rw [List.length_take]; omega)
  have HD := hide hd
  have VL := hide hvl
  have HZ := hide hsz
  clear hd hvl hsz
  go_enter Tryz.func100, Tryz.ntmps100
  go_wp2
  go_loop [5, 11] (fun cy i => ∃ k : Nat, k ≤ s.size ∧ i = .int .i64 k ∧ cy = .int .u64 ((decV (s.data.toList.take k) : Nat) : Int)) (fun _ i => s.size - (intOf i).toNat)
  case atStart => exact ⟨0, Nat.zero_le _, rfl, rfl⟩
  case round =>
    obtain ⟨k, hk, rfl, rfl⟩ := hrel
    by_cases hlt : k < s.size
    · have hsn := take_snoc s k hlt
      have hdk : isD s[k] = true := by
        have h1 := HD.out
        rw [List.all_eq_true] at h1
        exact h1 _ (getElem_mem_bytes s k hlt)
      have h12 := of_decide_eq_true hdk
      have h1 : (48 : Int) ≤ (s[k].toNat : Int) := by omega
      have h2 : (s[k].toNat : Int) ≤ 57 := by omega
      have E := hide (show decV (s.data.toList.take (k + 1)) = decV (s.data.toList.take k) * 10 + digD s[k] by rw [hsn]; exact decV_snoc _ _)
      have hv := VL.out k
      have hv' := VL.out (k + 1)
      obtain ⟨m, hm⟩ : ∃ m, m = decV (s.data.toList.take k) := ⟨_, rfl⟩
      obtain ⟨m1, hm1⟩ : ∃ m1, m1 = m * 10 := ⟨_, rfl⟩
      obtain ⟨m2, hm2⟩ : ∃ m2, m2 = decV (s.data.toList.take (k + 1)) := ⟨_, rfl⟩
      have e3 : m2 = m1 + (s[k].toNat - 48) := by rw [hm2, E.out, ← hm, ← hm1]; rfl
      have hL := GB_lt
      have o1 : binOp .mul 60 (.int .u64 (m : Int)) (.int .u64 10) = pure (.int .u64 (m1 : Int)) := op_mul_lt _ m 10 m1 hm1 (by rw [← hm2] at hv'; omega)
      have o2 : binOp .add 60 (.int .u64 (m1 : Int)) (.int .u64 ((s[k].toNat : Int) - 48)) = pure (.int .u64 (m2 : Int)) := by
        have := op_add_lt 60 m1 (s[k].toNat - 48) m2 e3 (by rw [← hm2] at hv'; omega)
        rwa [Int.ofNat_sub (by omega)] at this
      have M2 := hide hm2
      rw [← hm]
      clear E hv hv' hm hm1 hm2 e3 hL hsn hdk h12
      go_wp2
      go_round
      case rel => exact ⟨k + 1, by omega, by go_num, by rw [M2.out]⟩
      case measure => simp [intOf]; omega
    · obtain rfl : k = s.size := by omega
      have hv := VL.out s.size
      have e1 : s.data.toList.take s.size = s.data.toList := List.take_of_length_le (by rw [← HZ.out]; exact Nat.le_refl _)
      rw [e1] at hv ⊢
      obtain ⟨v, hve⟩ : ∃ v, v = decV s.data.toList := ⟨_, rfl⟩
      rw [← hve] at hv ⊢
      have VE := hide hve
      have VV := hide hv
      clear e1 hve hv
      have hln := hr.len
      have HLN := hide hln
      have HR := hide hr
      clear hln hr
      go_wp2
      go_loopw [5, 25] (fun cy i wr => ∃ k cc cs, k ≤ n ∧ i = .int .i64 (k : Nat) ∧ cy = .int .u64 (cc : Nat) ∧ GrpInv xs v k cc cs ∧ Row wr base A n c (cs ++ xs.drop k) ∧ Below base w wr) (fun _ i _ => n - (intOf i).toNat)
      case atStart => exact ⟨0, v, [], Nat.zero_le _, rfl, rfl, ⟨rfl, .nil, Nat.lt_trans VV.out GB_lt, by simp⟩, by simpa using HR.out, Below.refl _ _⟩
      case round =>
        obtain ⟨k, cc, cs, hk, rfl, rfl, gi, ho, hb⟩ := hrel
        by_cases hlt : k < n
        · have hkx : k < xs.length := by rw [HLN.out]; exact hlt
          have hcs := gi.1
          rcases ho.form with ⟨_, he⟩ | ⟨g, rfl, ho'⟩
          · exfalso
            have : (cs ++ xs.drop k).length = 0 := by rw [he]; rfl
            rw [List.length_append, List.length_drop] at this
            omega
          · have hcell := ho'.cell (j := k) (by rw [List.length_append, List.length_drop]; omega)
            have hl : lim (cs ++ xs.drop k) k = lim xs k := by
              have h1 := lim_append_right (xs := cs) (ys := xs.drop k) (i := 0)
              rw [hcs, Nat.add_zero] at h1
              rw [h1, lim_drop, Nat.add_zero]
            rw [hl] at hcell
            have hfr := ho'.frozen k
            have hst := ho'.set k (maLo (lim xs k) GB cc 0)
            rw [set_drop _ hcs hkx] at hst
            have S := hide (hst.row (n := n) (by have := HLN.out; rw [List.length_append, List.length_append, List.length_drop, List.length_singleton]; omega))
            have I := hide (gi.step lx)
            have MX : Hid (∀ W, Calls Tryz.prog 94 #[.int .u64 ((lim xs k : Nat) : Int), .int .u64 10000000000000000000, .int .u64 (cc : Int), .int .u64 0] W fun e w' =>
                e = .returned (.tuple #[.int .u64 ((maLo (lim xs k) GB cc 0 : Nat) : Int), .int .u64 ((maHi (lim xs k) GB cc 0 : Nat) : Int)]) ∧ W = w') := fun W => mulAdd_any (lim xs k) GB cc 0 (lx.get k) GB_lt gi.2.2.1 LB_pos W
            have BB := hide hb
            have BG := hide ho'.base_le
            clear hst hl ho ho' gi hb hcs
            generalize lim xs k = x at *
            go_wp2_with (go_at_call 94; (with_reducible refine (MX.out _).mono ?_); rintro ee w2 ⟨rfl, rfl⟩)
            go_roundw
            case rel => exact ⟨k + 1, _, _, by omega, by go_num, rfl, I.out, S.out, BB.out.setCell BG.out _⟩
            case measure => simp [intOf]; omega
        · obtain rfl : k = n := by omega
          have F := gi.fin HLN.out nx
          have hkl := gi.1
          rw [List.drop_of_length_le (by rw [HLN.out]; exact Nat.le_refl _), List.append_nil] at ho
          by_cases h0 : cc = 0
          · subst h0
            rw [if_pos rfl, VE.out] at F
            have FF := hide F
            have O := hide ho
            have BB := hide hb
            have KL := hide hkl
            clear gi ho hb F hkl
            go_wp2
            go_ret
            rw [FF.out, KL.out]
            exact ⟨_, _, rfl, O.out, BB.out⟩
          · rw [if_neg h0, VE.out] at F
            have FF := hide F
            have O := hide ho
            have BB := hide hb
            have KL := hide hkl
            have hne : ((cc : Int) == 0) = false := by simp; omega
            have hsz := hide (Nat.le_trans hbase hb.size)
            clear gi ho hb F hkl h0
            go_wp2_with (at_builtin; refine app_one _ rfl (.tmp 43) (.tmp 45) rfl base k c cc A cs rfl (O.out.alloc _) ⟨wr.heap.size, 0, none⟩ 1 rfl (by rw [World.cell?_alloc_at _ _ _ _ rfl]; rfl) (by omega) (by simp; have := hsz.out; omega) ?_; intro g1 c1 w1 hr1 hg1)
            go_ret
            rw [FF.out, List.length_append, KL.out]
            exact ⟨_, _, rfl, hr1, (BB.out.alloc hsz.out _).grown hg1 (by simp; have := hsz.out; omega) O.out.ownBlock⟩
end Nt

end Go.Proofs.YtgmjdaallinicaaGreatDoor
