
/-
  nat.Parse.
-/
import Derived.Test.YtgmjdaallinicaaGreatDoorParse

namespace Go.Proofs.YtgmjdaallinicaaGreatDoor

open Go.RowKit Go.Shelf

namespace Nt

theorem trimLeft0 (s : ByteArray) (w : World) :
    Calls Tryz.prog 77 #[.string s, .string { data := #[48] }] w fun e w' => ∃ t : ByteArray, e = .returned (.string t) ∧ t.data.toList = s.data.toList.dropWhile (· == 48) ∧ w = w' :=
  (Tryz.strings_TrimLeft_one s 48 (by decide) w).mono fun _ _ h => ⟨_, h.1, by simp [Lib.trimLeftB], h.2.symm⟩

theorem digs_len_dec {l : List UInt8} (h : l.all isD = true) : (digs (decV l)).length ≤ l.length := by
  rw [length_digs_le]
  refine Nat.lt_of_lt_of_le (decV_lt h) ?_
  exact Nat.pow_le_pow_left (by rw [LB_eq]; omega) _
theorem all_take {l : List UInt8} (h : l.all isD = true) (k : Nat) : (l.take k).all isD = true := by
  rw [List.all_eq_true] at h ⊢
  exact fun x hx => h x (List.mem_of_mem_take hx)
theorem all_drop {l : List UInt8} (h : l.all isD = true) (k : Nat) : (l.drop k).all isD = true := by
  rw [List.all_eq_true] at h ⊢
  exact fun x hx => h x (List.mem_of_mem_drop hx)
theorem i64_rem (t : TypeId) (x y : Nat) (hy : 0 < y) : binOp .rem t (.int .i64 (x : Int)) (.int .i64 (y : Int)) = pure (.int .i64 ((x % y : Nat) : Int)) := by
  show Op.intDiv .rem .i64 (x : Int) (y : Int) = _
  unfold Op.intDiv
  rw [if_neg (by omega)]
  rw [IntWalk.rem_in _ _ (by omega)]; simp
theorem i64_sub (t : TypeId) (x y z : Nat) (h : z + y = x) (hx : x ≤ 9223372036854775807) : binOp .sub t (.int .i64 (x : Int)) (.int .i64 (y : Int)) = pure (.int .i64 (z : Int)) := by
  have e : IntKind.i64.wrap ((x : Int) - (y : Int)) = (z : Int) := by rw [IntWalk.i64_in _ ⟨by omega, by omega⟩]; omega
  rw [← e]; rfl
theorem i64_quo (t : TypeId) (x y : Nat) (hx : x ≤ 9223372036854775807) (hy : 0 < y) : binOp .quo t (.int .i64 (x : Int)) (.int .i64 (y : Int)) = pure (.int .i64 ((x / y : Nat) : Int)) := by
  show Op.intDiv .quo .i64 (x : Int) (y : Int) = _
  unfold Op.intDiv
  rw [if_neg (by omega)]
  simp only []
  rw [IntWalk.i64_quo _ _ ⟨by omega, by omega, by omega⟩]; simp

set_option maxRecDepth 100000 in
set_option maxHeartbeats 1000000 in
/-- Digits are read, however many. -/
theorem lparse_any (s : ByteArray) (w : World) (hall : s.data.toList.all isD = true) (hs : s.size ≤ 20000) :
    Calls Tryz.prog 78 #[.string s] w (Mk w (digs (decV s.data.toList))) := by
  have HA := hide hall
  clear hall
  obtain ⟨l, hl⟩ : ∃ l, l = s.data.toList := ⟨_, rfl⟩
  have hsl : s.size = l.length := by rw [hl, Lib.size_eq]
  rw [← hl] at HA ⊢
  have HTS := hide hsl
  have htl := hide hl.symm
  have HL := hide (show l.length ≤ 20000 by omega)
  clear hl hsl
  go_enter Tryz.func78, Tryz.ntmps78
  go_wp2
  go_loopw [0, 3, 4] (fun sv av _ wr => ∃ (k : Nat) (u : ByteArray) (C : Option Addr) (n e : Nat), k ≤ l.length ∧ sv = .string u ∧ u.size = l.length - k ∧ Hid (u.data.toList = l.drop k) ∧ av = .slice C n e ∧ Row wr w.heap.size C n e (digs (decV (l.take k))) ∧ Below w.heap.size w wr ∧ (k = 0 ∨ (l.length - k) % 19 = 0)) (fun sv _ _ _ => match sv with | .string u => u.size | _ => 0)
  case atStart => exact ⟨0, s, none, 0, 0, Nat.zero_le _, rfl, by rw [HTS.out]; omega, htl, rfl, by rw [List.take_zero, show decV [] = 0 from rfl, digs_zero]; exact Row.nil _ _, Below.refl _ _, .inl rfl⟩
  case round =>
    obtain ⟨k, u, C, n, e, hk, rfl, hus, hul, rfl, hr, hbw, hmod⟩ := hrel
    have hll : l.length ≤ 20000 := HL.out
    have hn := hr.len
    by_cases h0 : u.size = 0
    · have hkl : k = l.length := by omega
      rw [hkl, List.take_length] at hr hn
      have R := hide hr
      have BB := hide hbw
      have hu0 : u.size ≤ 0 := by omega
      clear hus hmod h0 hr hbw hn
      go_wp2
      go_ret
      exact Mk.intro R.out BB.out rfl
    · obtain ⟨z, hz⟩ : ∃ z, z + 1 = u.size := ⟨u.size - 1, by omega⟩
      obtain ⟨m, hm⟩ : ∃ m, m = z % 19 + 1 := ⟨_, rfl⟩
      have hmle : m ≤ 19 := by omega
      have hmu : m ≤ u.size := by omega
      have o1 : binOp .rem 3 (.int .i64 ((u.size : Int) - 1)) (.int .i64 19) = pure (.int .i64 ((m : Int) - 1)) := by
        have := i64_rem 3 z 19 (by omega)
        rw [show (u.size : Int) - 1 = (z : Int) by omega, show (m : Int) - 1 = ((z % 19 : Nat) : Int) by omega]
        exact this
      have hgl := Lib.extract_data u 0 m
      have hrl := Lib.extract_to_end u m
      rw [hul.out, List.drop_zero, Nat.sub_zero] at hgl
      rw [hul.out, List.drop_drop] at hrl
      have hgs : (u.extract 0 m).size ≤ 19 := by rw [Lib.size_eq, hgl, List.length_take]; omega
      have hga : (u.extract 0 m).data.toList.all isD = true := by rw [hgl]; exact all_take (all_drop HA.out k) m
      have hnl : n ≤ 100000 := by
        rw [← hn]
        have := digs_len_dec (all_take HA.out k)
        rw [List.length_take] at this
        omega
      have G1 := group_any C n e w.heap.size (digs (decV (l.take k))) (u.extract 0 m) wr hr hbw.size (limbs_digs _) (norm_digs _) hnl hga hgs
      have hstep : decV (l.take (k + m)) = val (digs (decV (l.take k))) * GB + decV (u.extract 0 m).data.toList := by
        rw [val_digs, hgl]
        have e1 : l.take (k + m) = l.take k ++ (l.drop k).take m := List.take_add
        rw [e1, decV_append, List.length_take, List.length_drop, Nat.min_eq_left (by omega)]
        rcases hmod with h | h
        · subst h
          rw [List.take_zero]
          simp [decV, decF]
        · have : m = 19 := by omega
          rw [this]; rfl
      rw [← hstep] at G1
      have G2 := hide G1
      have BB := hide hbw
      have hrs : (u.extract m u.size).size = l.length - (k + m) := by rw [Lib.size_eq, hrl, List.length_drop]
      have U := hide hrl
      have US := hide hrs
      have MD := hide (show k + m = 0 ∨ (l.length - (k + m)) % 19 = 0 by right; omega)
      have MK := hide (show k + m ≤ l.length by omega)
      have MS := hide (show (u.extract m u.size).size < u.size by omega)
      have hu1 : 0 < u.size := by omega
      have hm1 : 1 ≤ m := by omega
      have hub : u.size ≤ 20000 := by omega
      clear G1 hstep hgl hrl hgs hga hnl hr hbw hn hmod hus hz hm hrs h0 hul
      go_wp2_with (go_at_call 100; (with_reducible refine (G2.out).mono ?_); rintro ee w2 ⟨A2, c2, rfl, hr2, hb2⟩)
      go_roundw
      case rel => exact ⟨k + m, _, A2, _, c2, MK.out, rfl, US.out, U, rfl, hr2, BB.out.trans hb2, MD.out⟩
      case measure => exact MS.out

set_option maxRecDepth 100000 in
set_option maxHeartbeats 1000000 in
theorem parse_any (s : ByteArray) (w : World) (hs : s.size ≤ 1000000) :
    Calls Tryz.prog 45 #[.string s] w (Two w (parseSp s.data.toList)) := by
  have AD := hide (allDigits_any s w (by unfold maxLen; omega))
  by_cases hb : digitsB s.data.toList = true
  · rw [hb] at AD
    have hall : s.data.toList.all isD = true := by
      unfold digitsB at hb
      rw [Bool.and_eq_true] at hb
      exact hb.1
    have TL := hide (trimLeft0 s w)
    have hall' := all_dropWhile hall
    have hval := decV_zeros s.data.toList
    have hhead := @dropWhile_head s.data.toList
    generalize hl : s.data.toList.dropWhile (· == 48) = l at *
    have hlen : l.length ≤ s.size := by
      rw [← hl, Lib.size_eq]
      exact List.Sublist.length_le (List.dropWhile_sublist _)
    have E : Hid (parseSp s.data.toList = if (digs (decV l)).length ≤ 64 then (digs (decV l), 0) else ([], 4)) := by
      show parseSp s.data.toList = _
      unfold parseSp
      rw [hb, hval]
      simp only [if_true, length_digs_le]
    have TL2 : Hid (Calls Tryz.prog 77 #[.string s, .string { data := #[48] }] w fun e w' => ∃ t : ByteArray, e = .returned (.string t) ∧ (t.size = l.length ∧ Hid (t.data.toList = l)) ∧ w = w') := by
      refine TL.out.mono fun _ _ ⟨t, h1, h2, h3⟩ => ⟨t, h1, ⟨by rw [Lib.size_eq, h2], h2⟩, h3⟩
    clear TL hall hb hl hval
    by_cases hbig : 1234 < l.length
    · have E2 : Hid (parseSp s.data.toList = ([], 4)) := by
        show parseSp s.data.toList = _
        rw [E.out, if_neg]
        rw [length_digs_le]
        cases l with
        | nil => simp at hbig
        | cons c m =>
          have hc : isD c = true := by
            rw [List.all_cons, Bool.and_eq_true] at hall'
            exact hall'.1
          have := big_text (l := m) hc (hhead rfl) (by simp at hbig; omega)
          omega
      clear E hhead hall'
      go_enter Tryz.func45, Tryz.ntmps45
      go_wp2_with (first
        | (go_at_call 76; (with_reducible refine (AD.out).mono ?_); rintro e w' ⟨rfl, rfl⟩)
        | (go_at_call 77; (with_reducible refine (TL2.out).mono ?_); rintro e w' ⟨t, rfl, ⟨hts, htl⟩, rfl⟩; have hts' : 1234 < t.size := (by omega); have HTS := hide hts; clear hts))
      go_ret2
      exact Two.mk E2.out (.nil _) (.refl _ _)
    · have HL := hide hbig
      have HA := hide hall'
      clear hhead hall' hbig
      have hv0 : l.length ≤ 1234 := by have := HL.out; omega
      by_cases h64 : (digs (decV l)).length ≤ 64
      · have E2 := hide (E.out.trans (if_pos h64))
        have E3 := hide (show (digs (decV l)).length ≤ 64 from h64)
        clear E
        generalize hD : digs (decV l) = ds at *
        have HD := hide hD
        have h64' := E3.out
        clear hD h64
        go_enter Tryz.func45, Tryz.ntmps45
        go_wp2_with (first
          | (go_at_call 76; (with_reducible refine (AD.out).mono ?_); rintro e w' ⟨rfl, rfl⟩)
          | (go_at_call 77; (with_reducible refine (TL2.out).mono ?_); rintro e w' ⟨t, rfl, ⟨hts, htl⟩, rfl⟩; have hts' : t.size ≤ 1234 := (by omega); have HTS := hide hts; clear hts)
          | (go_at_call 78; (with_reducible refine (lparse_any t w (by rw [htl.out]; exact HA.out) (by omega)).mono ?_); rw [htl.out, HD.out]; rintro e w1 ⟨A1, c1, rfl, r1, b1⟩))
        go_ret2
        exact Two.mk E2.out r1.res b1
      · have E2 := hide (E.out.trans (if_neg h64))
        have h64' : 64 < (digs (decV l)).length := by omega
        clear E
        generalize hD : digs (decV l) = ds at *
        have HD := hide hD
        clear hD h64
        go_enter Tryz.func45, Tryz.ntmps45
        go_wp2_with (first
          | (go_at_call 76; (with_reducible refine (AD.out).mono ?_); rintro e w' ⟨rfl, rfl⟩)
          | (go_at_call 77; (with_reducible refine (TL2.out).mono ?_); rintro e w' ⟨t, rfl, ⟨hts, htl⟩, rfl⟩; have hts' : t.size ≤ 1234 := (by omega); have HTS := hide hts; clear hts)
          | (go_at_call 78; (with_reducible refine (lparse_any t w (by rw [htl.out]; exact HA.out) (by omega)).mono ?_); rw [htl.out, HD.out]; rintro e w1 ⟨A1, c1, rfl, r1, b1⟩))
        go_ret2
        exact Two.mk E2.out (.nil _) b1
  · have hb' : digitsB s.data.toList = false := by simpa using hb
    rw [hb'] at AD
    have E := hide (show parseSp s.data.toList = ([], 2) by unfold parseSp; rw [hb']; rfl)
    clear hb hb'
    go_enter Tryz.func45, Tryz.ntmps45
    go_wp2_with (go_at_call 76; (with_reducible refine (AD.out).mono ?_); rintro e w' ⟨rfl, rfl⟩)
    go_ret2
    exact Two.mk E.out (.nil _) (.refl _ _)
end Nt

end Go.Proofs.YtgmjdaallinicaaGreatDoor
