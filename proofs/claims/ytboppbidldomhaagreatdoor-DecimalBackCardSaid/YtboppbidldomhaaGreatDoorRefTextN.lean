
/-
  The reference's TextNat.
-/
import Derived.Test.YtboppbidldomhaaGreatDoorWholeZ

import Derived.Test.YtboppbidldomhaaGreatDoorText2

import Derived.Test.YtboppbidldomhaaGreatDoorRefAdd

import Derived.Laws.IdiomStrings

namespace Go.Proofs.YtboppbidldomhaaGreatDoor

open Go.RowKit

namespace Nt
set_option maxRecDepth 100000 in
set_option maxHeartbeats 1000000 in
theorem rtext_any (A : Option Addr) (c : Nat) (xs : List Nat) (w : World) (hs : Sl w A xs) (lx : Limbs xs) (hl : xs.length ≤ 1000) :
    Calls Tryz.prog 87 #[.slice A xs.length c] w fun e w' => e = .returned (.string ⟨(textSp xs).toArray⟩) ∧ Below w.heap.size w w' := by
  have V := hide (rvalid_any A c xs w hs (by omega))
  rcases vB (xs := xs) with vx | vx
  · rw [vx] at V
    by_cases h0 : xs.length = 0
    · have E : Hid (textSp xs = [48]) := by
        have : xs = [] := List.eq_nil_of_length_eq_zero h0
        subst this
        unfold textSp
        rw [vx]
        exact Lib.decDigits_one (by decide)
      clear lx hs
      generalize xs.length = n at *
      subst h0
      rw [E.out]
      clear vx E
      go_enter Tryz.func87, Tryz.ntmps87
      go_wp2_with (go_at_call 65; (with_reducible refine (V.out).mono ?_); rintro e w' ⟨rfl, rfl⟩)
      go_ret
      exact ⟨rfl, .refl _ _⟩
    · have h0' : ((xs.length : Int) == 0) = false := beq_eq_false_iff_ne.2 (by omega)
      have HS := hide (hs.alloc (.cells #[] 45))
      have nx := (validB_iff.1 vx).2
      have hval : val xs ≠ 0 := by
        rw [Ne, val_eq_zero lx nx]
        rintro rfl
        simp at h0
      have E : Hid (textSp xs = Lib.decDigits (val xs)) := by unfold textSp; rw [vx]; rfl
      have X64 := hide (Nat.lt_of_lt_of_le (val_lt lx) (Nat.pow_le_pow_right LB_pos (validB_iff.1 vx).1))
      have XL := hide (dec_len X64.out)
      have XD := hide (digs_val_norm lx nx)
      clear hs h0 vx nx lx
      go_enter Tryz.func87, Tryz.ntmps87
      go_wp2_with (first
        | (go_at_call 65; (with_reducible refine (V.out).mono ?_); rintro e w' ⟨rfl, rfl⟩)
        | (at_builtin; refine app_any _ rfl (.tmp 13) (.tmp 14) rfl w.heap.size 0 0 xs.length c (some ⟨w.heap.size, 0, none⟩) A [] xs rfl (Row.empty (Nat.le_refl _)) rfl HS.out rfl (by omega) (by simp) ?_; intro A' c' w1 hr1 hg1; have hb1 := ((Below.refl _ _).alloc (Nat.le_refl _) _).grown hg1 (by simp) (Row.empty (Nat.le_refl _)).ownBlock; rw [List.nil_append, Nat.zero_add] at hr1; have HR := hide hr1; have HB := hide hb1; clear hr1 hb1 hg1))
      go_loopw [3, 4] (fun t a wr => ∃ v A n c s, v ≤ val xs ∧ t = .string s ∧ a = .slice A n c ∧ (digs v).length = n ∧ TxInv (val xs) v s.data.toList ∧ Row wr w.heap.size A n c (digs v) ∧ Below w.heap.size w wr) (fun t _ _ => (Lib.decDigits (val xs)).length - strLen t)
      case atStart => exact ⟨val xs, A', xs.length, c', ⟨#[]⟩, Nat.le_refl _, rfl, rfl, by rw [XD.out], .inr ⟨by omega, by simp⟩, by rw [XD.out]; exact HR.out, HB.out⟩
      case round =>
        obtain ⟨v, A, n, c, s, hv, rfl, rfl, hn, ti, ho, hb⟩ := hrel
        rcases Nat.eq_zero_or_pos v with rfl | hv0
        · have hn0 : n = 0 := by rw [← hn, digs_zero]; rfl
          subst hn0
          have T := hide (show s = ⟨(textSp xs).toArray⟩ by
            rw [E.out]
            refine str_eq ?_
            rcases ti with ⟨_, h⟩ | ⟨h, _⟩
            · exact h
            · omega)
          have BB := hide hb
          clear ti hb ho hn
          go_wp2
          go_ret
          exact ⟨ret_str T.out, BB.out⟩
        · have hnp : 0 < n := by
            rw [← hn]
            rcases Nat.eq_zero_or_pos (digs v).length with h | h
            · have := digs_eq_nil.1 (List.eq_nil_of_length_eq_zero h); omega
            · exact h
          have hn64 : n ≤ 64 := by
            rw [← hn]
            exact length_digs_le.2 (Nat.lt_of_le_of_lt hv X64.out)
          obtain ⟨g, rfl, ho'⟩ := ho.pos hnp
          have hlen := hide ho'.le
          have TL := hide (show Lib.decDigits v ++ s.data.toList = Lib.decDigits (val xs) by
            rcases ti with ⟨h, _⟩ | ⟨_, h⟩
            · omega
            · exact h)
          have TS := hide (ti.step hv0)
          have OO := hide ho'
          have BB := hide hb
          have HN := hide hn
          have LD := hide (limbs_digs v)
          clear ti ho ho' hb hn
          go_wp2
          go_loopw [5, 6] (fun re i wr => ∃ k : Nat, k ≤ n ∧ i = .int .i64 ((k : Int) - 1) ∧ re = .int .u64 ((dwR ((digs v).drop k) 10 : Nat) : Int) ∧ Own wr w.heap.size g c ((digs v).take k ++ dwQ ((digs v).drop k) 10) ∧ Below w.heap.size w wr) (fun _ i _ => (intOf i + 1).toNat)
          case atStart =>
            have e1 : (digs v).drop n = [] := List.drop_of_length_le (by rw [HN.out]; exact Nat.le_refl _)
            have e2 : (digs v).take n = digs v := List.take_of_length_le (by rw [HN.out]; exact Nat.le_refl _)
            exact ⟨n, Nat.le_refl _, rfl, by rw [e1]; rfl, by rw [e1, e2, dwQ, List.append_nil]; exact OO.out, BB.out⟩
          case round =>
            obtain ⟨k, hk, rfl, rfl, ha, hw⟩ := hrel
            cases k with
            | zero =>
              rw [List.take_zero, List.nil_append, List.drop_zero] at ha
              simp only [List.drop_zero]
              have dv := dw_val (xs := digs v) (d := 10) (by decide)
              rw [val_digs] at dv
              have hm : dwR (digs v) 10 < 10 := dwR_lt _ (by decide)
              have lq := dwQ_limbs (d := 10) (by decide) LD.out
              have R := hide (ha.alloc (.cells #[.int .u8 (48 + ((dwR (digs v) 10 : Nat) : Int))] 5))
              have W := hide (hw.alloc hw.size (.cells #[.int .u8 (48 + ((dwR (digs v) 10 : Nat) : Int))] 5))
              have T := hide (rtrim_n (some ⟨g, 0, none⟩) n c (dwQ (digs v) 10) _ (by rw [dwQ_len]; exact HN.out) R.out.sl (by have := R.out.le; rw [dwQ_len, HN.out] at this; exact this) (by omega))
              rw [← digs_val lq, dv.1] at T
              have kc := kc_byte wr (dwR (digs v) 10) hm
              have TI := TS.out
              rw [← dv.2] at TI
              have TT := hide TI
              have DL := hide (dec_room hv0 (TL.out))
              clear ha hw dv lq TI
              have hz : s.size ≤ 10000 := by have := DL.out; have := XL.out; omega
              obtain ⟨x, hx⟩ : ∃ x, x = UInt8.ofNat (48 + dwR (digs v) 10) := ⟨_, rfl⟩
              rw [← hx] at kc TT
              clear hx
              generalize dwR (digs v) 10 = r at *
              have hz' : (⟨#[x]⟩ : ByteArray).size + s.size ≤ 9223372036854775807 := by show 1 + s.size ≤ _; omega
              go_wp2_with (go_at_call 60; (with_reducible refine (T.out).mono ?_); rintro ee w2 ⟨A2, c2, rfl, hr2, hb2⟩)
              go_roundw
              case rel => exact ⟨v / 10, A2, _, c2, _, Nat.le_trans (Nat.div_le_self _ _) hv, rfl, rfl, rfl, by rw [str_cons]; exact TT.out, hr2.rebase W.out.size, bl_trans W.out hb2⟩
              case measure =>
                have := DL.out
                simp only [strLen, str_size]
                omega
            | succ k =>
              have hkl : k < (digs v).length := by rw [HN.out]; omega
              have hcell := ha.cell (j := k) (by rw [List.length_append, List.length_take, dwQ_len, List.length_drop]; omega)
              have hfr := ha.frozen k
              have hst := ha.set k (dvQ (dwR ((digs v).drop (k + 1)) 10) (lim (digs v) k) 10)
              rw [dw_set hkl] at hst
              rw [dw_lim hkl] at hcell
              have S := hide hst
              have W := hide hw
              have D : Hid (∀ W, Calls Tryz.prog 133 #[.int .u64 ((dwR ((digs v).drop (k + 1)) 10 : Nat) : Int), .int .u64 ((lim (digs v) k : Nat) : Int), .int .u64 10] W _) := fun W => div64 (dwR ((digs v).drop (k + 1)) 10) (lim (digs v) k) 10 (dwR_lt _ (by decide)) (by decide) (LD.out.get k) W
              have E' := hide (show dwR ((digs v).drop k) 10 = dvR (dwR ((digs v).drop (k + 1)) 10) (lim (digs v) k) 10 by rw [drop_cons_lim hkl]; rfl)
              have BG := hide ha.base_le
              clear hst ha hw
              generalize dwR ((digs v).drop (k + 1)) 10 = re at *
              generalize lim (digs v) k = x at *
              go_wp2_with (go_at_call 133; (with_reducible refine (D.out _).mono ?_); rintro ee w2 ⟨rfl, q0, rfl⟩)
              go_roundw
              case rel => exact ⟨k, by omega, by go_num, by rw [E'.out], S.out, Below.drewN' (W.out.setCell BG.out _) _⟩
              case measure => simp [intOf]
        
  · have E := hide (show textSp xs = [] by unfold textSp; rw [vx]; rfl)
    rw [vx] at V
    clear vx hs lx
    go_enter Tryz.func87, Tryz.ntmps87
    go_wp2_with (go_at_call 65; (with_reducible refine (V.out).mono ?_); rintro e w' ⟨rfl, rfl⟩)
    go_ret
    exact ⟨by rw [E.out]; rfl, .refl _ _⟩
end Nt

end Go.Proofs.YtboppbidldomhaaGreatDoor
