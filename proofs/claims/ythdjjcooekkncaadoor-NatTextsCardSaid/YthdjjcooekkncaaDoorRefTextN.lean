
/-
  The reference's TextNat.
  The reference's small, ParseNat.
-/
import Derived.Test.YthdjjcooekkncaaDoorWholeZ

import Derived.Test.YthdjjcooekkncaaDoorText2

import Derived.Test.YthdjjcooekkncaaDoorRefAdd

import Derived.Laws.IdiomStrings

import Derived.Test.YthdjjcooekkncaaDoorParse2

import Derived.Test.YthdjjcooekkncaaDoorRefMul

namespace Go.Proofs.YthdjjcooekkncaaDoor

open Go.RowKit

namespace Nt
set_option maxRecDepth 100000 in
set_option maxHeartbeats 1000000 in
theorem rtext_any (A : Option Addr) (c : Nat) (xs : List Nat) (w : World) (hs : Sl w A xs) (lx : Limbs xs) (hl : xs.length ≤ 1000) :
    Calls Tryd.prog 27 #[.slice A xs.length c] w fun e w' => e = .returned (.string ⟨(textSp xs).toArray⟩) ∧ Below w.heap.size w w' := by
  have V := hide (rvalid_any A c xs w hs (by omega))
  rcases vB (xs := xs) with vx | vx
  · rw [vx] at V
    by_cases h0 : xs.length = 0
    · have E : Hid (textSp xs = [48]) := by
        have : xs = [] := List.eq_nil_of_length_eq_zero h0
        subst this
        unfold textSp
        rw [vx]
        exact Lib.decDigits_one (by decide)
      clear lx hs
      generalize xs.length = n at *
      subst h0
      rw [E.out]
      clear vx E
      go_enter Tryd.func27, Tryd.ntmps27
      go_wp2_with (go_at_call 23; (with_reducible refine (V.out).mono ?_); rintro e w' ⟨rfl, rfl⟩)
      go_ret
      exact ⟨rfl, .refl _ _⟩
    · have h0' : ((xs.length : Int) == 0) = false := beq_eq_false_iff_ne.2 (by omega)
      have HS := hide (hs.alloc (.cells #[] 40))
      have nx := (validB_iff.1 vx).2
      have hval : val xs ≠ 0 := by
        rw [Ne, val_eq_zero lx nx]
        rintro rfl
        simp at h0
      have E : Hid (textSp xs = Lib.decDigits (val xs)) := by unfold textSp; rw [vx]; rfl
      have X64 := hide (Nat.lt_of_lt_of_le (val_lt lx) (Nat.pow_le_pow_right LB_pos (validB_iff.1 vx).1))
      have XL := hide (dec_len X64.out)
      have XD := hide (digs_val_norm lx nx)
      clear hs h0 vx nx lx
      go_enter Tryd.func27, Tryd.ntmps27
      go_wp2_with (first
        | (go_at_call 23; (with_reducible refine (V.out).mono ?_); rintro e w' ⟨rfl, rfl⟩)
        | (at_builtin; refine app_any _ rfl (.tmp 13) (.tmp 14) rfl w.heap.size 0 0 xs.length c (some ⟨w.heap.size, 0, none⟩) A [] xs rfl (Row.empty (Nat.le_refl _)) rfl HS.out rfl (by omega) (by simp) ?_; intro A' c' w1 hr1 hg1; have hb1 := ((Below.refl _ _).alloc (Nat.le_refl _) _).grown hg1 (by simp) (Row.empty (Nat.le_refl _)).ownBlock; rw [List.nil_append, Nat.zero_add] at hr1; have HR := hide hr1; have HB := hide hb1; clear hr1 hb1 hg1))
      go_loopw [3, 4] (fun t a wr => ∃ v A n c s, v ≤ val xs ∧ t = .string s ∧ a = .slice A n c ∧ (digs v).length = n ∧ TxInv (val xs) v s.data.toList ∧ Row wr w.heap.size A n c (digs v) ∧ Below w.heap.size w wr) (fun t _ _ => (Lib.decDigits (val xs)).length - strLen t)
      case atStart => exact ⟨val xs, A', xs.length, c', ⟨#[]⟩, Nat.le_refl _, rfl, rfl, by rw [XD.out], .inr ⟨by omega, by simp⟩, by rw [XD.out]; exact HR.out, HB.out⟩
      case round =>
        obtain ⟨v, A, n, c, s, hv, rfl, rfl, hn, ti, ho, hb⟩ := hrel
        rcases Nat.eq_zero_or_pos v with rfl | hv0
        · have hn0 : n = 0 := by rw [← hn, digs_zero]; rfl
          subst hn0
          have T := hide (show s = ⟨(textSp xs).toArray⟩ by
            rw [E.out]
            refine str_eq ?_
            rcases ti with ⟨_, h⟩ | ⟨h, _⟩
            · exact h
            · omega)
          have BB := hide hb
          clear ti hb ho hn
          go_wp2
          go_ret
          exact ⟨ret_str T.out, BB.out⟩
        · have hnp : 0 < n := by
            rw [← hn]
            rcases Nat.eq_zero_or_pos (digs v).length with h | h
            · have := digs_eq_nil.1 (List.eq_nil_of_length_eq_zero h); omega
            · exact h
          have hn64 : n ≤ 64 := by
            rw [← hn]
            exact length_digs_le.2 (Nat.lt_of_le_of_lt hv X64.out)
          obtain ⟨g, rfl, ho'⟩ := ho.pos hnp
          have hlen := hide ho'.le
          have TL := hide (show Lib.decDigits v ++ s.data.toList = Lib.decDigits (val xs) by
            rcases ti with ⟨h, _⟩ | ⟨_, h⟩
            · omega
            · exact h)
          have TS := hide (ti.step hv0)
          have OO := hide ho'
          have BB := hide hb
          have HN := hide hn
          have LD := hide (limbs_digs v)
          clear ti ho ho' hb hn
          go_wp2
          go_loopw [5, 6] (fun re i wr => ∃ k : Nat, k ≤ n ∧ i = .int .i64 ((k : Int) - 1) ∧ re = .int .u64 ((dwR ((digs v).drop k) 10 : Nat) : Int) ∧ Own wr w.heap.size g c ((digs v).take k ++ dwQ ((digs v).drop k) 10) ∧ Below w.heap.size w wr) (fun _ i _ => (intOf i + 1).toNat)
          case atStart =>
            have e1 : (digs v).drop n = [] := List.drop_of_length_le (by rw [HN.out]; exact Nat.le_refl _)
            have e2 : (digs v).take n = digs v := List.take_of_length_le (by rw [HN.out]; exact Nat.le_refl _)
            exact ⟨n, Nat.le_refl _, rfl, by rw [e1]; rfl, by rw [e1, e2, dwQ, List.append_nil]; exact OO.out, BB.out⟩
          case round =>
            obtain ⟨k, hk, rfl, rfl, ha, hw⟩ := hrel
            cases k with
            | zero =>
              rw [List.take_zero, List.nil_append, List.drop_zero] at ha
              simp only [List.drop_zero]
              have dv := dw_val (xs := digs v) (d := 10) (by decide)
              rw [val_digs] at dv
              have hm : dwR (digs v) 10 < 10 := dwR_lt _ (by decide)
              have lq := dwQ_limbs (d := 10) (by decide) LD.out
              have R := hide (ha.alloc (.cells #[.int .u8 (48 + ((dwR (digs v) 10 : Nat) : Int))] 5))
              have W := hide (hw.alloc hw.size (.cells #[.int .u8 (48 + ((dwR (digs v) 10 : Nat) : Int))] 5))
              have T := hide (rtrim_n (some ⟨g, 0, none⟩) n c (dwQ (digs v) 10) _ (by rw [dwQ_len]; exact HN.out) R.out.sl (by have := R.out.le; rw [dwQ_len, HN.out] at this; exact this) (by omega))
              rw [← digs_val lq, dv.1] at T
              have kc := kc_byte wr (dwR (digs v) 10) hm
              have TI := TS.out
              rw [← dv.2] at TI
              have TT := hide TI
              have DL := hide (dec_room hv0 (TL.out))
              clear ha hw dv lq TI
              have hz : s.size ≤ 10000 := by have := DL.out; have := XL.out; omega
              obtain ⟨x, hx⟩ : ∃ x, x = UInt8.ofNat (48 + dwR (digs v) 10) := ⟨_, rfl⟩
              rw [← hx] at kc TT
              clear hx
              generalize dwR (digs v) 10 = r at *
              have hz' : (⟨#[x]⟩ : ByteArray).size + s.size ≤ 9223372036854775807 := by show 1 + s.size ≤ _; omega
              go_wp2_with (go_at_call 57; (with_reducible refine (T.out).mono ?_); rintro ee w2 ⟨A2, c2, rfl, hr2, hb2⟩)
              go_roundw
              case rel => exact ⟨v / 10, A2, _, c2, _, Nat.le_trans (Nat.div_le_self _ _) hv, rfl, rfl, rfl, by rw [str_cons]; exact TT.out, hr2.rebase W.out.size, bl_trans W.out hb2⟩
              case measure =>
                have := DL.out
                simp only [strLen, str_size]
                omega
            | succ k =>
              have hkl : k < (digs v).length := by rw [HN.out]; omega
              have hcell := ha.cell (j := k) (by rw [List.length_append, List.length_take, dwQ_len, List.length_drop]; omega)
              have hfr := ha.frozen k
              have hst := ha.set k (dvQ (dwR ((digs v).drop (k + 1)) 10) (lim (digs v) k) 10)
              rw [dw_set hkl] at hst
              rw [dw_lim hkl] at hcell
              have S := hide hst
              have W := hide hw
              have D : Hid (∀ W, Calls Tryd.prog 56 #[.int .u64 ((dwR ((digs v).drop (k + 1)) 10 : Nat) : Int), .int .u64 ((lim (digs v) k : Nat) : Int), .int .u64 10] W _) := fun W => div64 (dwR ((digs v).drop (k + 1)) 10) (lim (digs v) k) 10 (dwR_lt _ (by decide)) (by decide) (LD.out.get k) W
              have E' := hide (show dwR ((digs v).drop k) 10 = dvR (dwR ((digs v).drop (k + 1)) 10) (lim (digs v) k) 10 by rw [drop_cons_lim hkl]; rfl)
              have BG := hide ha.base_le
              clear hst ha hw
              generalize dwR ((digs v).drop (k + 1)) 10 = re at *
              generalize lim (digs v) k = x at *
              go_wp2_with (go_at_call 56; (with_reducible refine (D.out _).mono ?_); rintro ee w2 ⟨rfl, q0, rfl⟩)
              go_roundw
              case rel => exact ⟨k, by omega, by go_num, by rw [E'.out], S.out, Below.drewN' (W.out.setCell BG.out _) _⟩
              case measure => simp [intOf]
        
  · have E := hide (show textSp xs = [] by unfold textSp; rw [vx]; rfl)
    rw [vx] at V
    clear vx hs lx
    go_enter Tryd.func27, Tryd.ntmps27
    go_wp2_with (go_at_call 23; (with_reducible refine (V.out).mono ?_); rintro e w' ⟨rfl, rfl⟩)
    go_ret
    exact ⟨by rw [E.out]; rfl, .refl _ _⟩
end Nt

end Go.Proofs.YthdjjcooekkncaaDoor

namespace Go.Proofs.YthdjjcooekkncaaDoor

open Go.RowKit

namespace Nt

def SmInv (xs : List Nat) (m v k c : Nat) (cs : List Nat) : Prop := cs.length = k ∧ Limbs cs ∧ c < LB ∧ val cs + LB ^ k * c = val (xs.take k) * m + v
theorem SmInv.step {xs cs : List Nat} {m v k c : Nat} (hm : m < LB) (lx : Limbs xs) (h : SmInv xs m v k c cs) : SmInv xs m v (k + 1) (maHi (lim xs k) m c 0) (cs ++ [maLo (lim xs k) m c 0]) := by
  obtain ⟨h1, h2, h3, h4⟩ := h
  refine ⟨by simp [h1], h2.append (.one (maLo_lt _ _ _ _)), maHi_lt _ _ _ _ (lx.get k) hm h3 LB_pos, ?_⟩
  have he := ma_eq (lim xs k) m c 0
  rw [val_append, val_one, val_take_succ, h1, Nat.pow_succ, Nat.add_mul]
  have : LB ^ k * (maLo (lim xs k) m c 0 + LB * maHi (lim xs k) m c 0) = LB ^ k * (lim xs k * m + c + 0) := by rw [he]
  rw [Nat.mul_add, Nat.mul_add, Nat.mul_add, ← Nat.mul_assoc, ← Nat.mul_assoc, Nat.mul_zero] at this
  omega
theorem SmInv.fin {xs cs : List Nat} {m v n c : Nat} (hm : 1 ≤ m) (hn : xs.length = n) (nx : Norm xs) (h : SmInv xs m v n c cs) : digs (val xs * m + v) = if c = 0 then cs else cs ++ [c] := by
  obtain ⟨h1, h2, h3, h4⟩ := h
  rw [List.take_of_length_le (by omega)] at h4
  by_cases h0 : c = 0
  · subst h0
    rw [if_pos rfl, ← h4, Nat.mul_zero, Nat.add_zero]
    refine digs_val_norm h2 (norm_of_le h2 ?_)
    by_cases hc : cs = []
    · exact .inl hc
    · right
      have hx : xs ≠ [] := by
        rintro rfl
        simp only [List.length_nil] at hn
        exact hc (List.eq_nil_of_length_eq_zero (by omega))
      have := le_val nx hx
      rw [h1, ← hn]
      have h5 : val xs * 1 ≤ val xs * m := Nat.mul_le_mul_left _ hm
      omega
  · rw [if_neg h0, ← h4]
    have e : val cs + LB ^ n * c = val (cs ++ [c]) := by rw [val_append, val_one, h1]
    rw [e]
    exact digs_val_norm (h2.append (.one h3)) ((norm_snoc _ _).2 h0)
theorem sm_lo (x y c : Nat) : sumL (mulLo x y) c 0 = maLo x y c 0 := by
  unfold sumL mulLo maLo
  rw [Nat.add_zero, Nat.add_zero, Nat.mod_add_mod]
theorem sm_hi (x y c : Nat) : mulHi x y + carL (mulLo x y) c 0 = maHi x y c 0 := by
  unfold carL mulLo maHi mulHi
  rw [Nat.add_zero, Nat.add_zero]
  have h := Nat.mod_add_div (x * y) LB
  have h2 : x * y + c = (x * y % LB + c) + LB * (x * y / LB) := by omega
  rw [h2, Nat.add_mul_div_left _ _ LB_pos, Nat.add_comm]
theorem sm_wrap {x y c : Nat} (t : TypeId) (hx : x < LB) (hy : y < LB) (hc : c < LB) : binOp .add t (.int .u64 ((mulHi x y : Nat) : Int)) (.int .u64 ((carL (mulLo x y) c 0 : Nat) : Int)) = pure (.int .u64 ((maHi x y c 0 : Nat) : Int)) :=
  op_add_lt t _ _ _ (sm_hi x y c).symm (maHi_lt _ _ _ _ hx hy hc LB_pos)

set_option maxRecDepth 100000 in
set_option maxHeartbeats 1000000 in
theorem small_any (A : Option Addr) (n c m cc : Nat) (xs : List Nat) (w : World) (hn : xs.length = n) (hs : Sl w A xs) (lx : Limbs xs) (nx : Norm xs) (hm : 1 ≤ m) (hmL : m < LB) (hcc : cc < LB) (hl : n ≤ 100000) :
    Calls Tryd.prog 54 #[.slice A n c, .int .u64 (m : Int), .int .u64 (cc : Int)] w (Mk w (digs (val xs * m + cc))) := by
  have H := hide hn
  have HS := hide (hs.alloc (.cells #[] 40))
  clear hn hs
  go_enter Tryd.func54, Tryd.ntmps54
  go_wp2_with (at_builtin; refine app_any _ rfl (.tmp 13) (.tmp 14) rfl w.heap.size 0 0 n c (some ⟨w.heap.size, 0, none⟩) A [] xs rfl (Row.empty (Nat.le_refl _)) rfl HS.out H.out (by omega) (by simp) ?_; intro A' c' w1 hr1 hg1; have hb1 := ((Below.refl _ _).alloc (Nat.le_refl _) _).grown hg1 (by simp) (Row.empty (Nat.le_refl _)).ownBlock; rw [List.nil_append, Nat.zero_add] at hr1; have HR := hide hr1; have HB := hide hb1; clear hr1 hb1 hg1)
  go_loopw [2, 8] (fun cy i wr => ∃ k cv cs, k ≤ n ∧ i = .int .i64 (k : Nat) ∧ cy = .int .u64 (cv : Nat) ∧ SmInv xs m cc k cv cs ∧ Row wr w.heap.size A' n c' (cs ++ xs.drop k) ∧ Below w.heap.size w wr) (fun _ i _ => n - (intOf i).toNat)
  case atStart => exact ⟨0, cc, [], Nat.zero_le _, rfl, rfl, ⟨rfl, .nil, hcc, by simp⟩, by simpa using HR.out, HB.out⟩
  case round =>
    obtain ⟨k, cv, cs, hk, rfl, rfl, gi, ho, hb⟩ := hrel
    by_cases hlt : k < n
    · have hkx : k < xs.length := by rw [H.out]; exact hlt
      have hcs := gi.1
      rcases ho.form with ⟨_, he⟩ | ⟨g, rfl, ho'⟩
      · exfalso
        have : (cs ++ xs.drop k).length = 0 := by rw [he]; rfl
        rw [List.length_append, List.length_drop] at this
        omega
      · have hcell := ho'.cell (j := k) (by rw [List.length_append, List.length_drop]; omega)
        have hl : lim (cs ++ xs.drop k) k = lim xs k := by
          have h1 := lim_append_right (xs := cs) (ys := xs.drop k) (i := 0)
          rw [hcs, Nat.add_zero] at h1
          rw [h1, lim_drop, Nat.add_zero]
        rw [hl] at hcell
        have hfr := ho'.frozen k
        have hst := ho'.set k (maLo (lim xs k) m cv 0)
        rw [set_drop _ hcs hkx, ← sm_lo] at hst
        have S := hide (hst.row (n := n) (by have := H.out; rw [List.length_append, List.length_append, List.length_drop, List.length_singleton]; omega))
        have I0 := gi.step hmL lx
        rw [← sm_lo] at I0
        have I := hide I0
        have MX := hide (fun W => mul64 (lim xs k) m (lx.get k) hmL W)
        have o1 := sm_wrap 40 (lx.get k) hmL gi.2.2.1
        have BB := hide hb
        have BG := hide ho'.base_le
        clear hst hl ho ho' gi hb hcs I0
        generalize lim xs k = x at *
        go_wp2_with (first
          | (go_at_call 76; (with_reducible refine (MX.out _).mono ?_); rintro ee w2 ⟨rfl, rfl⟩)
          | simp only [add64_0])
        go_roundw
        case rel => exact ⟨k + 1, _, _, by omega, by go_num, rfl, I.out, S.out, BB.out.setCell BG.out _⟩
        case measure => simp [intOf]; omega
    · obtain rfl : k = n := by omega
      have F := gi.fin hm H.out nx
      have hkl := gi.1
      rw [List.drop_of_length_le (by rw [H.out]; exact Nat.le_refl _), List.append_nil] at ho
      by_cases h0 : cv = 0
      · subst h0
        rw [if_pos rfl] at F
        have FF := hide F
        have O := hide ho
        have BB := hide hb
        clear gi ho hb F hkl
        go_wp2
        go_ret
        exact Mk.intro O.out BB.out FF.out
      · rw [if_neg h0] at F
        have FF := hide F
        have O := hide ho
        have BB := hide hb
        have hpos : 0 < cv := by omega
        clear gi ho hb F hkl h0
        go_wp2_with (at_builtin; refine app_one _ rfl (.tmp 46) (.tmp 48) rfl w.heap.size k c' cv A' cs rfl (O.out.alloc _) ⟨wr.heap.size, 0, none⟩ 1 rfl (by rw [World.cell?_alloc_at _ _ _ _ rfl]; rfl) (by omega) (by simp; have := BB.out.size; omega) ?_; intro g1 c1 w1 hr1 hg1)
        go_ret
        exact Mk.intro hr1 ((BB.out.alloc BB.out.size _).grown hg1 (by simp; have := BB.out.size; omega) O.out.ownBlock) FF.out

theorem small_ten (A : Option Addr) (n c cc : Nat) (v : Nat) (z : Int) (w : World) (hn : (digs v).length = n) (hs : Sl w A (digs v)) (hcc : cc < LB) (hz : z = (cc : Int)) (hl : n ≤ 100000) :
    Calls Tryd.prog 54 #[.slice A n c, .int .u64 10, .int .u64 z] w (Mk w (digs (v * 10 + cc))) := by
  subst hz
  have := small_any A n c 10 cc (digs v) w hn hs (limbs_digs v) (norm_digs v) (by decide) (by decide) hcc hl
  rw [val_digs] at this
  exact this

theorem decV_step {l : List UInt8} {k : Nat} : decV (l.take k) ≤ decV l := by
  have h := decV_append (l.take k) (l.drop k)
  rw [List.take_append_drop] at h
  have := Nat.mul_le_mul_left (decV (l.take k)) (Nat.pow_pos (n := (l.drop k).length) (show 0 < 10 by decide))
  omega

set_option maxRecDepth 100000 in
set_option maxHeartbeats 2000000 in
theorem rparse_any (s : ByteArray) (w : World) (hs : s.size ≤ 1000000) :
    Calls Tryd.prog 25 #[.string s] w (Two w (parseSp s.data.toList)) := by
  go_enter Tryd.func25, Tryd.ntmps25
  go_wp2
  go_loopw [4, 5, 6] (fun a b i wr => ∃ k : Nat, k ≤ s.size ∧ i = .int .i64 k ∧ (s.data.toList.take k).all isD = true ∧ Below w.heap.size w wr ∧
      ∃ A n c, a = .slice A n c ∧ ((b = .bool false ∧ (digs (decV (s.data.toList.take k))).length = n ∧ n ≤ 64 ∧ n ≤ c ∧ c ≤ maxLen ∧ Sl wr A (digs (decV (s.data.toList.take k)))) ∨ (b = .bool true ∧ LB ^ 64 ≤ decV (s.data.toList.take k)))) (fun _ _ i _ => s.size - (intOf i).toNat)
  case atStart => exact ⟨0, Nat.zero_le _, rfl, rfl, .refl _ _, none, 0, 0, rfl, .inl ⟨rfl, by simp [decV, decF, digs_zero], by omega, by omega, by unfold maxLen; omega, by simp [decV, decF, digs_zero, Sl]⟩⟩
  case round =>
    obtain ⟨k, hk, rfl, hd, hb, A, n, c, rfl, hst⟩ := hrel
    by_cases hlt : k < s.size
    · have hsn := take_snoc s k hlt
      by_cases h1 : s[k].toNat < 48
      · have E := hide (show parseSp s.data.toList = ([], 2) by
          unfold parseSp
          rw [digitsB_false (k := k) hlt (by unfold isD; exact decide_eq_false (by omega))]; rfl)
        have h1' : (s[k].toNat : Int) < 48 := by omega
        have BB := hide hb
        clear hd hsn h1 hst hb
        go_wp2
        go_ret2
        exact Two.mk E.out (.nil _) BB.out
      · have h1' : (48 : Int) ≤ (s[k].toNat : Int) := by omega
        by_cases h2 : 57 < s[k].toNat
        · have E := hide (show parseSp s.data.toList = ([], 2) by
            unfold parseSp
            rw [digitsB_false (k := k) hlt (by unfold isD; exact decide_eq_false (by omega))]; rfl)
          have h2' : (57 : Int) < (s[k].toNat : Int) := by omega
          have BB := hide hb
          clear hd hsn h1 h2 hst hb
          go_wp2
          go_ret2
          exact Two.mk E.out (.nil _) BB.out
        · have h2' : (s[k].toNat : Int) ≤ 57 := by omega
          have H := hide (show (s.data.toList.take (k + 1)).all isD = true by
            rw [hsn, List.all_append, hd, Bool.true_and]
            have : isD s[k] = true := by unfold isD; exact decide_eq_true (by omega)
            simp [this])
          have V := hide (show decV (s.data.toList.take (k + 1)) = decV (s.data.toList.take k) * 10 + digD s[k] by rw [hsn]; exact decV_snoc _ _)
          have Z := hide (show ((s[k].toNat : Int) - 48) = ((digD s[k] : Nat) : Int) by unfold digD; omega)
          have DL := hide (show digD s[k] < LB by unfold digD; rw [LB_eq]; omega)
          have BB := hide hb
          rcases hst with ⟨rfl, hn, h64, hc, hm, hsl⟩ | ⟨rfl, hbig⟩
          · have SM := hide (small_ten A n c (digD s[k]) _ _ wr hn hsl DL.out Z.out (by omega))
            rw [← V.out] at SM
            clear hd hsn h1 h2 hsl hb
            obtain ⟨v, hve⟩ : ∃ v, v = decV (s.data.toList.take (k + 1)) := ⟨_, rfl⟩
            rw [← hve] at SM
            have VE := hide hve
            clear hve
            by_cases hv : (digs v).length ≤ 64
            · go_wp2_with (go_at_call 54; (with_reducible refine (SM.out).mono ?_); rintro ee w1 ⟨A1, c1, rfl, hr1, hb1⟩; have HR1 := hide hr1; clear hr1)
              go_roundw
              case rel => exact ⟨k + 1, by omega, by go_num, H.out, bl_trans BB.out hb1, _, _, _, rfl, .inl ⟨by first | rfl | rw [decide_eq_false (show ¬ (64 : Int) < ((digs v).length : Int) by omega)], by rw [← VE.out], hv, HR1.out.le, HR1.out.cap_le, by rw [← VE.out]; exact HR1.out.sl⟩⟩
              case measure => simp [intOf]; omega
            · have hv' : 64 < (digs v).length := by omega
              have BG : Hid (LB ^ 64 ≤ v) := by
                rcases Nat.lt_or_ge v (LB ^ 64) with h | h
                · exact absurd (length_digs_le.2 h) hv
                · exact h
              clear hv
              go_wp2_with (go_at_call 54; (with_reducible refine (SM.out).mono ?_); rintro ee w1 ⟨A1, c1, rfl, hr1, hb1⟩; clear hr1)
              go_roundw
              case rel => exact ⟨k + 1, by omega, by go_num, H.out, bl_trans BB.out hb1, _, _, _, rfl, .inr ⟨by first | rfl | rw [decide_eq_true (show (64 : Int) < ((digs v).length : Int) by omega)], by rw [← VE.out]; exact BG.out⟩⟩
              case measure => simp [intOf]; omega
          · have BG : Hid (LB ^ 64 ≤ decV (s.data.toList.take (k + 1))) := by
              rw [V.out]
              exact Nat.le_trans hbig (by omega)
            clear hd hsn h1 h2 hbig hb V
            go_wp2
            go_roundw
            case rel => exact ⟨k + 1, by omega, by go_num, H.out, BB.out, _, _, _, rfl, .inr ⟨rfl, BG.out⟩⟩
            case measure => simp [intOf]; omega
    · obtain rfl : k = s.size := by omega
      have e1 : s.data.toList.take s.size = s.data.toList := List.take_of_length_le (by rw [← Lib.size_eq]; exact Nat.le_refl _)
      rw [e1] at hd hst
      have BB := hide hb
      by_cases h0 : s.size = 0
      · have E := hide (show parseSp s.data.toList = ([], 2) by
          have : s.data.toList = [] := List.eq_nil_of_length_eq_zero (by rw [← Lib.size_eq]; exact h0)
          rw [this]; rfl)
        clear hd hst hb e1
        go_wp2
        go_ret2
        exact Two.mk E.out (.nil _) BB.out
      · have hd' : digitsB s.data.toList = true := by
          unfold digitsB
          rw [hd, Bool.true_and]
          refine decide_eq_true (fun e => h0 ?_)
          rw [Lib.size_eq, e]; rfl
        have h0' : ((s.size : Int) == 0) = false := beq_eq_false_iff_ne.2 (by omega)
        rcases hst with ⟨rfl, hn, h64, hc, hm, hsl⟩ | ⟨rfl, hbig⟩
        · have E := hide (show parseSp s.data.toList = (digs (decV s.data.toList), 0) by
            unfold parseSp
            rw [hd', if_pos rfl, if_pos (length_digs_le.1 (by rw [hn]; exact h64))])
          have RS := hide (show Res wr (.slice A n c) (digs (decV s.data.toList)) from ⟨A, c, by rw [hn], by rw [hn]; exact hc, hm, hsl⟩)
          clear hd hd' hn hc hm hsl hb e1 h0
          go_wp2
          go_ret2
          exact Two.mk E.out RS.out BB.out
        · have E := hide (show parseSp s.data.toList = ([], 4) by
            unfold parseSp
            rw [hd', if_pos rfl, if_neg (by omega)])
          clear hd hd' hbig hb e1 h0
          go_wp2
          go_ret2
          exact Two.mk E.out (.nil _) BB.out
end Nt

end Go.Proofs.YthdjjcooekkncaaDoor
