
/-
  nat.Text.
-/
import Derived.Test.YtgmjdaallinicaaGreatDoorText

namespace Go.Proofs.YtgmjdaallinicaaGreatDoor

open Go.RowKit

namespace Nt

theorem Pow10.some {w : World} (h : Pow10 w) : ∃ g, Tryz.prog.globalNamed "internal/strconv.uint64pow10" = some g ∧ g < w.heap.size := by
  unfold Pow10 Lib.TabIs World.var? at h
  cases hg : Tryz.prog.globalNamed "internal/strconv.uint64pow10" with
  | none => simp [hg] at h
  | some g =>
    simp only [hg, Option.bind_some] at h
    refine ⟨g, rfl, ?_⟩
    rcases Nat.lt_or_ge g w.heap.size with h' | h'
    · exact h'
    · rw [Array.getElem?_eq_none h'] at h; simp at h
theorem Pow10.below {w w' : World} {B : Nat} (h : Pow10 w) (hb : Below B w w') (hB : w.heap.size ≤ B) : Pow10 w' := by
  obtain ⟨g, hg, hlt⟩ := h.some
  unfold Pow10 Lib.TabIs World.var? at *
  simp only [hg, Option.bind_some] at h ⊢
  rw [hb.block g (by omega)]
  exact h

/-- The builder of the call's own. -/
def Bld (w : World) (B b : Nat) (l : List UInt8) : Prop := Lib.IsBuilder 104 5 B b (Lib.byteCells l) w
theorem Bld.keep {w w' : World} {B b : Nat} {l : List UInt8} (h : Bld w B b l) (hb : Below w.heap.size w w') : Bld w' B b l := by
  have key : ∀ p, Lib.BuilderAt 104 5 B b p (Lib.byteCells l) w → Lib.BuilderAt 104 5 B b p (Lib.byteCells l) w' := fun p hp => by
    have hlt := hp.lt
    obtain ⟨h1, v, h2, h3, h4⟩ := hp
    exact ⟨h1, v, by rw [hb.block b hlt]; exact h2, World.ownsRow.kept (row := none) h3 ⟨hb.os, hb.tape, hb.output, hb.size, fun k hk _ => hb.block k hk⟩ (by cases hv : v.ownBlock <;> simp), h4⟩
  rcases h with h | h
  · exact .inl (key _ h)
  · exact .inr (key _ h)
theorem Bld.fresh (w : World) : Bld (w.alloc (.cells #[.pointer none, .slice none 0 0] 104)) w.heap.size w.heap.size [] := Lib.fresh_isBuilder _ _ w
theorem bld_write (B b : Nat) (l : List UInt8) (s : ByteArray) (w : World) (h : Bld w B b l) (hlen : l.length + s.size ≤ 100000000) (hBw : B ≤ w.heap.size) :
    Calls Tryz.prog 102 #[.pointer (some ⟨b, 0, none⟩), .string s] w fun e w' => e = .returned (.tuple #[.int .i64 s.size, .nilIface]) ∧ Bld w' B b (l ++ s.data.toList) ∧ Below B w w' := by
  refine (Tryz.Builder_WriteString B b (Lib.byteCells l) s w h (by rw [Lib.byteCells_length]; omega) hBw).mono fun e w' ⟨h1, h2, h3⟩ => ⟨h1, .inr ?_, h3⟩
  have e : Lib.byteCells (l ++ s.data.toList) = Lib.byteCells l ++ Lib.strCells s := by simp [Lib.byteCells, Lib.strCells]
  rw [e]; exact h2
theorem bld_string (B b : Nat) (l : List UInt8) (w : World) (h : Bld w B b l) (hBw : B ≤ w.heap.size) :
    Calls Tryz.prog 105 #[.pointer (some ⟨b, 0, none⟩)] w fun e w' => e = .returned (.string ⟨l.toArray⟩) ∧ Below B w w' := Tryz.Builder_String_any B b l w h hBw

/-- A text by its bytes. -/
def Txt (l : List UInt8) (D : ByteArray) : Prop := D.data.toList = l
theorem Txt.size {l : List UInt8} {D : ByteArray} (h : Txt l D) : D.size = l.length := by rw [Lib.size_eq, h]
theorem Txt.mk (l : List UInt8) : Txt l ⟨l.toArray⟩ := by simp [Txt]
theorem Txt.eq {l : List UInt8} {D : ByteArray} (h : Txt l D) : D = ⟨l.toArray⟩ := by
  cases D with
  | mk d => unfold Txt at h; simp at h; rw [← h]
theorem fmt_txt (u : Nat) (hu : u < GB) (w : World) (htab : Pow10 w) :
    Calls Tryz.prog 103 #[.int .u64 (u : Int), .int .i64 10] w fun e w' => ∃ D : ByteArray, e = .returned (.string D) ∧ (1 ≤ D.size ∧ D.size ≤ 19 ∧ Txt (Lib.decDigits u) D) ∧ Below w.heap.size w w' := by
  refine (fmtUint u (Nat.lt_trans hu GB_lt) w htab).mono fun e w' ⟨h1, h2⟩ => ⟨_, h1, ⟨?_, ?_, Txt.mk _⟩, h2⟩
  · rw [(Txt.mk _).size, Lib.decDigits_length]; exact Lib.nDigits_pos u
  · rw [(Txt.mk _).size]; exact dec_len_le (k := 18) hu
theorem repeat_txt (z : Nat) (hz : z ≤ 19) (w : World) :
    Calls Tryz.prog 116 #[.string { data := #[48] }, .int .i64 (z : Int)] w fun e w' => ∃ D : ByteArray, e = .returned (.string D) ∧ (D.size ≤ 19 ∧ Txt (List.replicate z 48) D) ∧ Below w.heap.size w w' := by
  refine (Tryz.strings_Repeat ⟨#[48]⟩ z w (by omega) (by show 1 * z ≤ _; omega)).mono fun e w' ⟨h1, h2⟩ => ⟨_, h1, ?_, h2⟩
  have e1 : Lib.repeatL (⟨#[48]⟩ : ByteArray).data.toList z = List.replicate z 48 := by
    have := Lib.repeatL_replicate (48 : UInt8) 1 z
    simpa using this
  rw [e1]
  exact ⟨by rw [(Txt.mk _).size, List.length_replicate]; exact hz, Txt.mk _⟩

/-- The text of the groups from k on. -/
def gtext (gs : List Nat) (k : Nat) : List UInt8 := if k < gs.length then Lib.decDigits (gval (gs.drop k)) else []
theorem gtext_len {gs : List Nat} (h : ∀ x ∈ gs, x < GB) : ∀ k, (gtext gs k).length ≤ 19 * gs.length := by
  have hv : ∀ l : List Nat, (∀ x ∈ l, x < GB) → gval l < GB ^ l.length := by
    intro l
    induction l with
    | nil => intro _; simp [gval]
    | cons x l ih =>
      intro hl
      have h1 := ih (fun y hy => hl y (by simp [hy]))
      have h2 := hl x (by simp)
      rw [gval, List.length_cons, Nat.pow_succ]
      have : GB * (gval l + 1) ≤ GB * GB ^ l.length := Nat.mul_le_mul_left _ h1
      rw [Nat.mul_add, Nat.mul_one] at this
      rw [Nat.mul_comm (GB ^ l.length)]
      omega
  intro k
  unfold gtext
  split
  · rename_i hk
    have h1 := hv (gs.drop k) (fun x hx => h x (List.mem_of_mem_drop hx))
    rw [GB_pow, ← Nat.pow_mul] at h1
    obtain ⟨j, hj⟩ : ∃ j, j + 1 = 19 * (gs.drop k).length := ⟨19 * (gs.drop k).length - 1, by rw [List.length_drop]; omega⟩
    rw [← hj] at h1
    have := dec_len_le h1
    rw [List.length_drop] at hj
    omega
  · simp
theorem gtext_last {gs : List Nat} {k : Nat} (h : k + 1 = gs.length) : gtext gs (k + 1) = [] ∧ gtext gs k = Lib.decDigits (lim gs k) := by
  unfold gtext
  rw [if_neg (by omega), if_pos (by omega), gval_drop (by omega), List.drop_of_length_le (by omega)]
  exact ⟨rfl, by simp [gval]⟩
theorem gtext_step {N k : Nat} (h : k + 1 < (grps N).length) : gtext (grps N) k = gtext (grps N) (k + 1) ++ (List.replicate (19 - (Lib.decDigits (lim (grps N) k)).length) 48 ++ Lib.decDigits (lim (grps N) k)) := by
  unfold gtext
  rw [if_pos (by omega), if_pos h, gval_drop (by omega)]
  exact dec_group (grps_drop_pos N _ h (by omega)) (grps_lt N _ (lim_mem (by omega)))

/-- A group's text, with all its digits. -/
def grpD (x : Nat) : List UInt8 := List.replicate (19 - (Lib.decDigits x).length) 48 ++ Lib.decDigits x
theorem groupText_any (x : Nat) (hx : x < GB) (w : World) (htab : Pow10 w) :
    Calls Tryz.prog 104 #[.int .u64 (x : Int)] w fun e w' => ∃ D : ByteArray, e = .returned (.string D) ∧ (D.size ≤ 38 ∧ Txt (grpD x) D) ∧ Below w.heap.size w w' := by
  have F := hide (fmt_txt x hx w htab)
  clear hx htab
  go_enter Tryz.func104, Tryz.ntmps104
  go_wp2_with (first
    | (go_at_call 103; (with_reducible refine (F.out).mono ?_); rintro ee w2 ⟨D, rfl, ⟨hD1, hD2, hD3⟩, hb2⟩; have HD := hide hD3; clear hD3; obtain ⟨z, hz⟩ : ∃ z, z + D.size = 19 := ⟨19 - D.size, by omega⟩; have o1 : binOp .sub 3 (.int .i64 19) (.int .i64 (D.size : Int)) = pure (.int .i64 (z : Int)) := i64_sub _ 19 D.size z hz (by omega); have HZ := hide hz; clear hz)
    | (go_at_call 116; (with_reducible refine (repeat_txt z (by have := HZ.out; omega) _).mono ?_); rintro ee w3 ⟨D3, rfl, ⟨hD4, hD5⟩, hb3⟩; have HD3 := hide hD5; clear hD5))
  go_ret
  have hz2 : z = 19 - (Lib.decDigits x).length := by have := HZ.out; rw [Txt.size HD.out] at this; omega
  refine ⟨_, rfl, ⟨?_, ?_⟩, hb2.trans (hb3.mono hb2.size)⟩
  · rw [ByteArray.size_append]; omega
  · unfold Txt grpD
    rw [← hz2, ← (show D3.data.toList = _ from HD3.out), ← (show D.data.toList = _ from HD.out)]
    simp

set_option maxRecDepth 100000 in
set_option maxHeartbeats 1000000 in
/-- A number is written. -/
theorem ltext_any (A : Option Addr) (n c : Nat) (xs : List Nat) (w : World) (hn : xs.length = n) (hs : Sl w A xs) (lx : Limbs xs) (hl : n ≤ 64) (htab : Pow10 w) :
    Calls Tryz.prog 79 #[.slice A n c] w fun e w' => e = .returned (.string ⟨(Lib.decDigits (val xs)).toArray⟩) ∧ Below w.heap.size w w' := by
  have G : Hid (Calls Tryz.prog 101 #[.slice A n c] w (Mk w (grps (val xs)))) := by
    by_cases h0 : n = 0
    · subst h0
      have : xs = [] := List.eq_nil_of_length_eq_zero hn
      subst this
      have e : grps (val []) = [0] := by rw [val_nil]; exact grps_small (by decide)
      rw [e]
      exact groups_nil A c w
    · exact groups_at A c n xs w hn hs lx (by omega) (by omega)
  have GL := grps_len' lx (Nat.le_of_eq hn)
  have GP := List.length_pos_iff.2 (grps_ne (val xs))
  have HT := hide htab
  clear hn htab hs lx
  obtain ⟨N, hN⟩ : ∃ N, N = val xs := ⟨_, rfl⟩
  rw [← hN] at G GL GP ⊢
  clear hN
  obtain ⟨gs, hgs⟩ : ∃ gs, gs = grps N := ⟨_, rfl⟩
  have GS := hide hgs
  rw [← hgs] at G GL GP
  clear hgs
  obtain ⟨gn, hgn⟩ : ∃ gn, gn = gs.length := ⟨_, rfl⟩
  have GN := hide hgn
  have G2 : Hid (Calls Tryz.prog 101 #[.slice A n c] w fun e w' => ∃ A' c', e = .returned (.slice A' gn c') ∧ Row w' w.heap.size A' gn c' gs ∧ Below w.heap.size w w') := by rw [hgn]; exact G.out
  rw [← hgn] at GL GP
  clear G hgn
  obtain ⟨m, hm⟩ : ∃ m, gn = m + 1 := ⟨gn - 1, by omega⟩
  subst hm
  have hml : lim gs m < GB := by rw [GS.out]; exact grps_lt N _ (lim_mem (by rw [← GS.out, ← GN.out]; omega))
  have LE := hide (gtext_last (gs := gs) (k := m) GN.out).2
  obtain ⟨x, hx⟩ : ∃ x, x = lim gs m := ⟨_, rfl⟩
  rw [← hx] at hml LE
  have HX := hide hx
  have HML := hide hml
  have hm1 : m ≤ 200 := by omega
  clear hml hx GL
  go_enter Tryz.func79, Tryz.ntmps79
  go_wp2_with (first
    | (go_at_call 101; (with_reducible refine (G2.out).mono ?_); rintro e w1 ⟨A1, c1, rfl, hr1, hb1⟩; obtain ⟨g, rfl, hog⟩ := hr1.pos (by omega); have hcell := hog.cell (j := m) (by rw [← GN.out]; omega); rw [← HX.out] at hcell; have hcell2 := (hog.alloc (.cells #[.pointer none, .slice none 0 0] 104)).cell (j := m) (by rw [← GN.out]; omega); rw [← HX.out] at hcell2; have HOG := hide hog; have hb0 := hide hb1; clear hog hr1 hb1)
    | (go_at_call 103; (with_reducible refine (fmt_txt x HML.out _ (HT.out.below (hb0.out.trans ((Below.refl w1.heap.size w1).alloc (Nat.le_refl _) _ |>.mono hb0.out.size)) (Nat.le_refl _))).mono ?_); rintro ee w2 ⟨D, rfl, ⟨hD1, hD2, hD3⟩, hb2⟩; have HD := hide hD3; clear hD3)
    | (go_at_call 102; (with_reducible refine (bld_write w1.heap.size w1.heap.size [] D _ ((Bld.fresh w1).keep hb2) (by simp; omega) (Nat.le_trans (by simp) hb2.size)).mono ?_); rintro ee w3 ⟨rfl, hbl3, hb3⟩))
  have hw3 : Below w1.heap.size w1 w3 := ((Below.refl w1.heap.size w1).alloc (Nat.le_refl _) _).trans ((hb2.mono (by simp)).trans hb3)
  have BF : Hid (Bld w3 w1.heap.size w1.heap.size (gtext gs m)) := by
    rw [LE.out, ← (show D.data.toList = _ from HD.out)]
    exact hide (by simpa using hbl3)
  have HW3 := hide hw3
  clear hcell hcell2 hbl3 hb3 hb2 hw3 HD
  go_loopw [6] (fun i wr => ∃ k : Nat, k ≤ m ∧ i = .int .i64 ((k : Int) - 1) ∧ Bld wr w1.heap.size w1.heap.size (gtext gs k) ∧ Below w1.heap.size w1 wr) (fun i _ => (intOf i + 1).toNat)
  case atStart => exact ⟨m, Nat.le_refl _, rfl, BF.out, HW3.out⟩
  case round =>
    obtain ⟨k, hk, rfl, hbl, hbw⟩ := hrel
    have hsz := hbw.size
    cases k with
    | zero =>
      have S := hide (bld_string w1.heap.size w1.heap.size (gtext gs 0) wr hbl hsz)
      have E := hide (show gtext gs 0 = Lib.decDigits N by
        unfold gtext
        rw [if_pos (by rw [← GN.out]; exact GP), List.drop_zero, GS.out, gval_grps])
      have BB := hide hbw
      clear hbl hbw
      rw [E.out] at S
      go_wp2_with (go_at_call 105; (with_reducible refine (S.out).mono ?_); rintro ee w4 ⟨rfl, hb4⟩)
      go_ret
      exact ⟨rfl, hb0.out.trans ((BB.out.trans hb4).mono hb0.out.size)⟩
    | succ k =>
      have hog := HOG.out.below hbw HOG.out.lt
      have hgl : gs.length ≤ 201 := by rw [← GN.out]; omega
      have hl1 := gtext_len (gs := gs) (by rw [GS.out]; exact grps_lt N) (k + 1)
      have hcell := hog.cell (j := k) (by rw [← GN.out]; omega)
      have hgk : lim gs k < GB := by rw [GS.out]; exact grps_lt N _ (lim_mem (by rw [← GS.out, ← GN.out]; omega))
      have F := hide (groupText_any (lim gs k) hgk wr (HT.out.below (hb0.out.trans (hbw.mono hb0.out.size)) (Nat.le_refl _)))
      have E := hide (show gtext gs k = gtext gs (k + 1) ++ grpD (lim gs k) by
        unfold grpD; rw [GS.out]; exact gtext_step (by rw [← GS.out, ← GN.out]; omega))
      have BL := hide hbl
      have BB := hide hbw
      clear hbl hbw hog hgk
      generalize lim gs k = x at *
      go_wp2_with (first
        | (go_at_call 104; (with_reducible refine (F.out).mono ?_); rintro ee w4 ⟨D4, rfl, ⟨hD4, hD5⟩, hb4⟩; have HD4 := hide hD5; clear hD5)
        | (go_at_call 102; (with_reducible refine (bld_write w1.heap.size w1.heap.size (gtext gs (k + 1)) D4 _ (BL.out.keep hb4) (by omega) (Nat.le_trans hsz hb4.size)).mono ?_); rintro ee w5 ⟨rfl, hbl5, hb5⟩))
      go_roundw
      case rel => exact ⟨k, by omega, by go_num, by (rw [E.out, ← (show D4.data.toList = _ from HD4.out)]; exact hbl5), BB.out.trans ((hb4.mono hsz).trans hb5)⟩
      case measure => simp [intOf]

theorem text_ok (A : Option Addr) (n c : Nat) (xs : List Nat) (w : World) (hn : xs.length = n) (hs : Sl w A xs) (lx : Limbs xs) (vx : validB xs = true) (hl : n ≤ 64) (htab : Pow10 w) :
    Calls Tryz.prog 46 #[.slice A n c] w fun e w' => e = .returned (.string ⟨(Lib.decDigits (val xs)).toArray⟩) ∧ Below w.heap.size w w' := by
  have V := hide (valid_any A c xs w hs (by omega))
  have L := hide (ltext_any A n c xs w hn hs lx hl htab)
  rw [hn, vx] at V
  clear hn vx htab hs lx
  generalize Lib.decDigits (val xs) = t at *
  go_enter Tryz.func46, Tryz.ntmps46
  go_wp2_with (first
    | (go_at_call 15; (with_reducible refine (V.out).mono ?_); rintro e w' ⟨rfl, rfl⟩)
    | (go_at_call 79; (with_reducible refine (L.out).mono ?_); rintro e w1 ⟨rfl, hb1⟩))
  go_ret
  exact ⟨rfl, hb1⟩

theorem text_any (A : Option Addr) (c : Nat) (xs : List Nat) (w : World) (hs : Sl w A xs) (lx : Limbs xs) (hl : xs.length ≤ 1000000) (htab : Pow10 w) :
    Calls Tryz.prog 46 #[.slice A xs.length c] w fun e w' => e = .returned (.string ⟨(textSp xs).toArray⟩) ∧ Below w.heap.size w w' := by
  rcases vB (xs := xs) with vx | vx
  · have := text_ok A xs.length c xs w rfl hs lx vx (validB_iff.1 vx).1 htab
    unfold textSp
    rw [vx]
    exact this
  · have V := hide (valid_any A c xs w hs (by omega))
    have E := hide (show textSp xs = [] by unfold textSp; rw [vx]; rfl)
    rw [vx] at V
    clear vx
    go_enter Tryz.func46, Tryz.ntmps46
    go_wp2_with (go_at_call 15; (with_reducible refine (V.out).mono ?_); rintro e w' ⟨rfl, rfl⟩)
    go_ret
    exact ⟨by rw [E.out]; rfl, .refl _ _⟩
end Nt

end Go.Proofs.YtgmjdaallinicaaGreatDoor
