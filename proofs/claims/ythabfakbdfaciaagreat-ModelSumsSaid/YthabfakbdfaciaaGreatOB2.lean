import Derived.Test.YthabfakbdfaciaaGreatOB1
import Derived.Test.YthabfakbdfaciaaGreatOB0
import Derived.Lib.Strings
import Derived.Lib.IndexBytes
import Derived.Lib.TrimByte
import Derived.Shelf.Strings.Trim
import Derived.Lib.AppendIntMem
import Derived.Lib.Hide
import Derived.Deep.RegionHeld3
namespace Go.Proofs.YthabfakbdfaciaaGreat
namespace Nt
set_option maxRecDepth 100000
set_option maxHeartbeats 16000000
section
open Go.RowKit
def dwR : List Nat → Nat → Nat
  | [], _ => 0
  | x :: xs, d => dvR (dwR xs d) x d
def dwQ : List Nat → Nat → List Nat
  | [], _ => []
  | x :: xs, d => dvQ (dwR xs d) x d :: dwQ xs d
theorem dwR_lt (xs : List Nat) {d : Nat} (hd : 0 < d) : dwR xs d < d := by
  cases xs with
  | nil => exact hd
  | cons x xs => exact Nat.mod_lt _ hd
theorem dwQ_len (xs : List Nat) (d : Nat) : (dwQ xs d).length = xs.length := by
  induction xs with
  | nil => rfl
  | cons x xs ih => simp [dwQ, ih]
theorem dwQ_limbs {xs : List Nat} {d : Nat} (hd : 0 < d) (h : Limbs xs) : Limbs (dwQ xs d) := by
  induction xs with
  | nil => exact .nil
  | cons x xs ih => exact .cons (dvQ_lt (dwR_lt xs hd) h.head) (ih h.tail)
theorem dw_eq (xs : List Nat) (d : Nat) : d * val (dwQ xs d) + dwR xs d = val xs := by
  induction xs with
  | nil => simp [dwQ, dwR]
  | cons x xs ih =>
    have h := dv_eq (dwR xs d) x d
    rw [dwQ, dwR, val_cons, val_cons, Nat.mul_add, Nat.mul_left_comm, ← ih, Nat.mul_add]
    rw [Nat.mul_comm (dwR xs d)] at h
    omega
theorem dw_val {xs : List Nat} {d : Nat} (hd : 0 < d) : val (dwQ xs d) = val xs / d ∧ dwR xs d = val xs % d := by
  have h := dw_eq xs d
  have h2 := dwR_lt xs hd
  have : val xs / d = val (dwQ xs d) := by
    refine Nat.div_eq_of_lt_le ?_ ?_
    · rw [Nat.mul_comm]; omega
    · rw [Nat.add_mul, Nat.one_mul, Nat.mul_comm]; omega
  refine ⟨this.symm, ?_⟩
  have h3 := Nat.div_add_mod (val xs) d
  rw [this] at h3
  omega
theorem drop_cons_lim {xs : List Nat} {k : Nat} (h : k < xs.length) : xs.drop k = lim xs k :: xs.drop (k + 1) := by rw [lim_some h, List.getElem_cons_drop]
theorem set_mid (us bs : List Nat) (x y : Nat) : (us ++ x :: bs).set us.length y = us ++ y :: bs := by
  rw [List.set_append_right _ _ (Nat.le_refl _), Nat.sub_self, List.set_cons_zero]
theorem dw_set {xs : List Nat} {d k : Nat} (h : k < xs.length) : (xs.take (k + 1) ++ dwQ (xs.drop (k + 1)) d).set k (dvQ (dwR (xs.drop (k + 1)) d) (lim xs k) d) = xs.take k ++ dwQ (xs.drop k) d := by
  have e : (xs.take k).length = k := by rw [List.length_take]; omega
  rw [take_succ_lim h, drop_cons_lim h, dwQ, List.append_assoc, List.singleton_append]
  have := set_mid (xs.take k) (dwQ (xs.drop (k + 1)) d) (lim xs k) (dvQ (dwR (xs.drop (k + 1)) d) (lim xs k) d)
  rwa [e] at this
theorem dw_lim {xs : List Nat} {d k : Nat} (h : k < xs.length) : lim (xs.take (k + 1) ++ dwQ (xs.drop (k + 1)) d) k = lim xs k := by
  rw [lim_append_left (by rw [List.length_take]; omega), lim_take (by omega)]
theorem wordGcd_any (x y : Nat) (hx : x < LB) (hy : y < LB) (w : World) :
    Calls Tryz.prog 127 #[.int .u64 (x : Int), .int .u64 (y : Int)] w (Quiet w (.int .u64 ((Nat.gcd x y : Nat) : Int))) := by
  go_enter Tryz.func127, Tryz.ntmps127
  go_wp2
  go_loopw [0, 1] (fun a b wr => ∃ p r : Nat, a = .int .u64 (p : Int) ∧ b = .int .u64 (r : Int) ∧ p < LB ∧ r < LB ∧ Nat.gcd p r = Nat.gcd x y ∧ ∃ q, wr = w.drewN q) (fun _ b _ => (intOf b).toNat)
  case atStart => exact ⟨x, y, rfl, rfl, hx, hy, rfl, 0, rfl⟩
  case round =>
    obtain ⟨p, r, rfl, rfl, hp, hr, hg, q, rfl⟩ := hrel
    by_cases h0 : r = 0
    · subst h0
      have E := hide hg
      clear hg hp hr
      go_wp2
      go_ret
      exact ⟨ret_one (by rw [← E.out, Nat.gcd_zero_right]), q, rfl⟩
    · have e0 : ((r : Int) != 0) = true := by simp; omega
      have hrp : 0 < r := by omega
      obtain ⟨m, hm⟩ : ∃ m, m = p % r := ⟨_, rfl⟩
      have o1 : binOp .rem 128 (.int .u64 (p : Int)) (.int .u64 (r : Int)) = pure (.int .u64 (m : Int)) := by rw [hm]; exact op_rem _ p r hrp
      have E := hide (show Nat.gcd r m = Nat.gcd x y by rw [hm, ← hg, Nat.gcd_comm p r, Nat.gcd_rec r p, Nat.gcd_comm])
      have ML := hide (show m < r by rw [hm]; exact Nat.mod_lt _ hrp)
      have PL := hide hr
      clear hg hm h0 hr hp
      go_wp2
      go_quiet (fail)
      go_wp2
      go_roundw
      case rel => exact ⟨r, m, rfl, rfl, PL.out, Nat.lt_trans ML.out PL.out, E.out, dr2 _ _ _⟩
      case measure => (have := ML.out; simp [intOf]; omega)
end
section
open Go.RowKit
theorem Row.pos {w : World} {base n c : Nat} {A : Option Addr} {xs : List Nat} (h : Row w base A n c xs) (hn : 0 < n) : ∃ g, A = some ⟨g, 0, none⟩ ∧ Own w base g c xs := by
  have hl := h.len
  rcases h.form with ⟨_, rfl⟩ | ⟨g, rfl, ho⟩
  · simp at hl; omega
  · exact ⟨g, rfl, ho⟩
theorem clone_any (A : Option Addr) (n c : Nat) (xs : List Nat) (w : World) (hn : xs.length = n) (hs : Sl w A xs) (hl : n ≤ 100000) :
    Calls Tryz.prog 126 #[.slice A n c] w (Mk w xs) := by
  rcases A with _ | ad
  · have hx : xs = [] := by
      rcases hs with h | ⟨_, _, h, _⟩
      · exact h
      · cases h
    subst hx
    refine (Tryz.slices_Clone_nil n c w).mono fun e w' ⟨h1, h2⟩ => ?_
    subst h1 h2
    exact Mk.intro (Row.nil _ _) (.refl _ _) rfl
  · have heq : ∀ W, (binOp .eql 26 (.slice (some ad) n c) (.slice none 0 0)).run Tryz.prog W = .ok (.bool false) W := fun W => by
      have := Lib.run_eql_slice_nil (P := Tryz.prog) W 26 128 (some ad) n c 0 0 Tryz.underlying26
      simpa using this
    have HN := hide hn
    clear hn
    go_enter Tryz.func126, Tryz.ntmps126
    go_wp2_with (at_builtin; refine app_any _ rfl (.tmp 5) (.tmp 6) rfl w.heap.size 0 0 n c (some ⟨w.heap.size, 0, none⟩) (some ad) [] xs rfl (Row.empty (Nat.le_refl _)) rfl (hs.alloc _) HN.out (by omega) (by simp) ?_; intro A' c' w1 hr1 hg1)
    go_ret
    exact Mk.intro (by simpa using hr1) (((Below.refl _ _).alloc (Nat.le_refl _) _).grown hg1 (by simp) (Row.empty (Nat.le_refl _)).ownBlock) rfl
theorem dword_own (base g cap d n : Nat) (xs : List Nat) (w : World) (hn : xs.length = n) (h : Own w base g cap xs) (lx : Limbs xs) (hd : 0 < d) (hdL : d < LB) (hl : n ≤ 100000) :
    Calls Tryz.prog 143 #[.slice (some ⟨g, 0, none⟩) n cap, .int .u64 (d : Int)] w fun e w' => e = .returned (.int .u64 ((dwR xs d : Nat) : Int)) ∧ Own w' base g cap (dwQ xs d) ∧ Wrote w w' g 0 n := by
  have H := hide hn
  clear hn
  go_enter Tryz.func143, Tryz.ntmps143
  go_wp2
  go_loopw [4, 5] (fun re i wr => ∃ k : Nat, k ≤ n ∧ i = .int .i64 ((k : Int) - 1) ∧ re = .int .u64 ((dwR (xs.drop k) d : Nat) : Int) ∧ Own wr base g cap (xs.take k ++ dwQ (xs.drop k) d) ∧ Wrote w wr g 0 n) (fun _ i _ => (intOf i + 1).toNat)
  case atStart =>
    have e1 : xs.drop n = [] := List.drop_of_length_le (by rw [H.out]; exact Nat.le_refl _)
    have e2 : xs.take n = xs := List.take_of_length_le (by rw [H.out]; exact Nat.le_refl _)
    exact ⟨n, Nat.le_refl _, rfl, by rw [e1]; rfl, by rw [e1, e2, dwQ, List.append_nil]; exact h, Wrote.refl _ _ _ _⟩
  case round =>
    obtain ⟨k, hk, rfl, rfl, ha, hw⟩ := hrel
    cases k with
    | zero =>
      have R := hide ha
      have W := hide hw
      clear ha hw
      go_wp2
      go_ret
      refine ⟨rfl, ?_, W.out⟩
      have := R.out
      rwa [List.take_zero, List.nil_append, List.drop_zero] at this
    | succ k =>
      have hkl : k < xs.length := by rw [H.out]; omega
      have hcell := ha.cell (j := k) (by rw [List.length_append, List.length_take, dwQ_len, List.length_drop]; omega)
      have hfr := ha.frozen k
      have hst := ha.set k (dvQ (dwR (xs.drop (k + 1)) d) (lim xs k) d)
      rw [dw_set hkl] at hst
      rw [dw_lim hkl] at hcell
      have S := hide hst
      have W := hide hw
      have D := hide (fun W => div64 (dwR (xs.drop (k + 1)) d) (lim xs k) d (dwR_lt _ hd) hdL (lx.get k) W)
      have E := hide (show dwR (xs.drop k) d = dvR (dwR (xs.drop (k + 1)) d) (lim xs k) d by rw [drop_cons_lim hkl]; rfl)
      clear hst ha hw h
      generalize dwR (xs.drop (k + 1)) d = re at *
      generalize lim xs k = x at *
      go_wp2_with (go_at_call 153; (with_reducible refine (D.out _).mono ?_); rintro ee w2 ⟨rfl, q0, rfl⟩)
      go_roundw
      case rel => exact ⟨k, by omega, by go_num, by rw [E.out], S.out, (W.out.setCell (by omega) _).drewN _⟩
      case measure => simp [intOf]
def Two2 (w : World) (q r : List Nat) (e : Ending) (w' : World) : Prop := ∃ A n c B m d, e = .returned (.tuple #[.slice A n c, .slice B m d]) ∧ Row w' w.heap.size A n c q ∧ Row w' w.heap.size B m d r ∧ Below w.heap.size w w'
theorem Two2.mk {w w' : World} {q r q' r' : List Nat} {A B : Option Addr} {n c m d : Nat} (hq : Row w' w.heap.size A n c q') (hr : Row w' w.heap.size B m d r') (hb : Below w.heap.size w w') (e1 : q = q') (e2 : r = r') : Two2 w q r (.returned (.tuple #[.slice A n c, .slice B m d])) w' := by
  subst e1 e2
  exact ⟨_, _, _, _, _, _, rfl, hq, hr, hb⟩
theorem Own.trimRow {w : World} {base g cap : Nat} {xs : List Nat} (h : Own w base g cap xs) : Row w base (some ⟨g, 0, none⟩) (trimz xs).length cap (trimz xs) := by
  have := h.take (trimz xs).length
  rw [trimz_prefix] at this
  exact this.row rfl
theorem Row.litW {base : Nat} (w : World) (x : Nat) (hb : base ≤ w.heap.size) : Own (w.alloc (.cells #[.int .u64 (x : Int)] 128)) base w.heap.size 1 [x] :=
  Own.mk (cur := #[lv x]) hb (heap_alloc_new w _) (Nat.le_refl _) (by simp only [maxLen]; omega) rfl rfl
theorem digs_word {x : Nat} (hx : x < LB) : digs x = trimz [x] := by
  rw [← digs_val (Limbs.one hx), val_one]
theorem trim1 (A : Option Addr) (c x : Nat) (w : World) (hs : Sl w A [x]) (hc : 1 ≤ c) :
    Calls Tryz.prog 144 #[.slice A 1 c] w fun e w' => e = .returned (.slice A (trimz [x]).length c) ∧ w = w' := trim_n A 1 c [x] w rfl hs hc (by omega)
def LongOk (xs ys : List Nat) : Prop := ∀ (A B : Option Addr) (c d : Nat) (w : World), Sl w A xs → Sl w B ys →
  Calls Tryz.prog 145 #[.slice A xs.length c, .slice B ys.length d] w (Two2 w (digs (val xs / val ys)) (digs (val xs % val ys)))
theorem divide_any (A B : Option Addr) (c d : Nat) (xs ys : List Nat) (w : World) (hx : Sl w A xs) (hy : Sl w B ys) (lx : Limbs xs) (ly : Limbs ys) (nx : Norm xs) (ny : Norm ys)
    (hl : xs.length ≤ 10000) (hl' : ys.length ≤ 10000) (hp : 0 < ys.length) (HL : 2 ≤ ys.length → val ys ≤ val xs → LongOk xs ys) :
    Calls Tryz.prog 111 #[.slice A xs.length c, .slice B ys.length d] w (Two2 w (digs (val xs / val ys)) (digs (val xs % val ys))) := by
  have C := hide (lcmp_any A B c d xs ys w hx hy lx ly nx ny (by omega) (by omega))
  by_cases hlt : val xs < val ys
  · rw [cmpN_lt hlt] at C
    have E1 := hide (show digs (val xs / val ys) = [] by rw [Nat.div_eq_of_lt hlt, digs_zero])
    have E2 := hide (show digs (val xs % val ys) = xs by rw [Nat.mod_eq_of_lt hlt]; exact digs_val_norm lx nx)
    have K := hide (fun q => clone_any A xs.length c xs (w.drewN q) rfl hx (by omega))
    clear hlt nx ny
    go_enter Tryz.func111, Tryz.ntmps111
    go_wp2_with (first
      | (go_at_call 123; (with_reducible refine (C.out).mono ?_); rintro e w1 ⟨rfl, q0, rfl⟩)
      | (go_at_call 126; (with_reducible refine (K.out _).mono ?_); rintro e w2 ⟨A2, c2, rfl, hr2, hb2⟩))
    go_ret2
    exact Two2.mk (Row.nil _ _) hr2 ((Below.drewN' (.refl _ _) _).trans hb2) E1.out E2.out
  · have hle : val ys ≤ val xs := by omega
    have hz : 0 ≤ cmpN (val xs) (val ys) := by
      unfold cmpN
      rw [if_neg hlt]
      split <;> omega
    have hxp : 0 < xs.length := by have := len_le_of_val lx ny hle; omega
    by_cases h1 : ys.length = 1
    · have hyv : ys = [lim ys 0] := by
        cases ys with
        | nil => simp at h1
        | cons y t =>
          have : t = [] := List.eq_nil_of_length_eq_zero (by simpa using h1)
          subst this; rfl
      have hyd : val ys = lim ys 0 := by
        have := congrArg val hyv
        rwa [val_one] at this
      have hy0 : 0 < lim ys 0 := by
        have h2 := le_val ny (by intro e; rw [e] at h1; simp at h1)
        rw [h1] at h2
        simp at h2
        omega
      have hyL := ly.get 0
      obtain ⟨b, o, rfl, hb⟩ := hy.at_ hp
      have hbc := hb.cell (j := 0) hp
      rw [Nat.add_zero] at hbc
      obtain ⟨dw1, dw2⟩ := dw_val (xs := xs) hy0
      have lq := dwQ_limbs (d := lim ys 0) hy0 lx
      have E1 := hide (show digs (val xs / val ys) = trimz (dwQ xs (lim ys 0)) by rw [hyd, ← dw1]; exact digs_val lq)
      have E2 := hide (show digs (val xs % val ys) = trimz [dwR xs (lim ys 0)] by
        rw [hyd, ← dw2]
        exact digs_word (Nat.lt_trans (dwR_lt xs hy0) hyL))
      have HB := hide hb
      have hblt := hb.lt
      have DL := hide (dwQ_len xs (lim ys 0))
      have KK := hide (fun q => clone_any A xs.length c xs (w.drewN q) rfl hx (by omega))
      have DW := hide (fun base g cap W (h : Own W base g cap xs) => dword_own base g cap (lim ys 0) xs.length xs W rfl h lx hy0 hyL (by omega))
      rw [h1] at C ⊢
      clear hlt nx ny hle HL hb hy hyv hyd hy0 hyL dw1 dw2 lq
      generalize lim ys 0 = y at *
      generalize cmpN (val xs) (val ys) = z at *
      go_enter Tryz.func111, Tryz.ntmps111
      go_wp2_with (first
        | (go_at_call 123; (with_reducible refine (C.out).mono ?_); rintro e w1 ⟨rfl, q0, rfl⟩)
        | (go_at_call 126; (with_reducible refine (KK.out _).mono ?_); rintro e w2 ⟨A2, c2, rfl, hr2, hb2⟩; obtain ⟨g, rfl, ho2⟩ := hr2.pos hxp; have hbc2 := (World.cell?_of_block (a := ⟨b, o, none⟩) (hb2.block b hblt)).trans hbc; have HO2 := hide ho2; clear ho2 hr2)
        | (go_at_call 143; (with_reducible refine (DW.out _ _ _ _ HO2.out).mono ?_); rintro ee w3 ⟨rfl, ho3, hw3⟩; have HO3 := hide ho3; clear ho3)
        | (go_at_call 144; (with_reducible refine (trim_n _ _ _ (dwQ xs y) _ DL.out (HO3.out.alloc _).sl (by have := HO3.out.le; rw [DL.out] at this; exact this) (by omega)).mono ?_); rintro ee w5 ⟨rfl, rfl⟩)
        | (go_at_call 144; (with_reducible refine (trim1 _ _ (dwR xs y) _ (Row.litW w3 _ (Nat.le_refl _)).sl (Nat.le_refl _)).mono ?_); rintro ee w6 ⟨rfl, rfl⟩))
      go_ret2
      have hbw : Below w.heap.size w w3 := ((Below.drewN' (.refl _ _) _).trans hb2).trans (hw3.below HO2.out.base_le hb2.size)
      exact Two2.mk (HO3.out.alloc _).trimRow ((Row.litW w3 _ hbw.size).trimRow) (hbw.alloc hbw.size _) E1.out E2.out
    · have LG := hide (fun q => HL (by omega) hle A B c d (w.drewN q) hx hy)
      have h1' : ((ys.length : Int) == 1) = false := by simp; omega
      clear hlt nx ny hle HL h1
      generalize cmpN (val xs) (val ys) = z at *
      go_enter Tryz.func111, Tryz.ntmps111
      go_wp2_with (first
        | (go_at_call 123; (with_reducible refine (C.out).mono ?_); rintro e w1 ⟨rfl, q0, rfl⟩)
        | (go_at_call 145; (with_reducible refine (LG.out _).mono ?_); rintro e w2 ⟨A2, n2, c2, B2, m2, d2, rfl, hq2, hr2, hb2⟩))
      go_ret2
      exact Two2.mk hq2 hr2 ((Below.drewN' (.refl _ _) _).trans hb2) rfl rfl
end
section
open Go.RowKit
theorem of_any (n : Nat) (hn : 0 < n) (hm : n ≤ 9223372036854775807) (w : World) :
    Calls Tryz.prog 89 #[.int .i64 (n : Int)] w (Mk w [n]) := by
  go_enter Tryz.func89, Tryz.ntmps89
  go_wp2
  go_ret
  exact Mk.intro ((Row.litW w n (Nat.le_refl _)).row rfl) ((Below.refl _ _).alloc (Nat.le_refl _) _) rfl
theorem of_no (z : Int) (hz : z ≤ 0) (w : World) :
    Calls Tryz.prog 89 #[.int .i64 z] w (Mk w []) := by
  go_enter Tryz.func89, Tryz.ntmps89
  go_wp2
  go_ret
  exact Mk.intro (Row.nil _ _) (.refl _ _) rfl
end
section
open Go.RowKit
theorem len_spec (x : Nat) : x ≠ 0 → x < 2 ^ 64 → 1 ≤ Lib.bitLen x ∧ 2 ^ (Lib.bitLen x - 1) ≤ x ∧ x < 2 ^ Lib.bitLen x := by
  induction x using Nat.strongRecOn with
  | ind x ih =>
    intro h0 hx
    by_cases h1 : x = 1
    · subst h1; decide
    · obtain ⟨i1, i2, i3⟩ := ih (x / 2) (by omega) (by omega) (by omega)
      rw [Lib.bitLen_half x h0 hx]
      generalize Lib.bitLen (x / 2) = b at *
      obtain ⟨k, rfl⟩ : ∃ k, b = k + 1 := ⟨b - 1, by omega⟩
      rw [show 1 + (k + 1) - 1 = k + 1 by omega, show 1 + (k + 1) = k + 1 + 1 by omega]
      rw [Nat.add_sub_cancel] at i2
      rw [Nat.pow_succ 2 (k + 1)]
      rw [Nat.pow_succ] at *
      omega
theorem LB_two_pow (k : Nat) : LB ^ k = 2 ^ (64 * k) := by rw [Nat.pow_mul]; rfl
def blen (n : Nat) : Nat := if n = 0 then 0 else Nat.log2 n + 1
theorem blen_zero : blen 0 = 0 := rfl
theorem blen_of {n b : Nat} (h1 : 2 ^ b ≤ n) (h2 : n < 2 ^ (b + 1)) : blen n = b + 1 := by
  have h0 : n ≠ 0 := by have := Nat.two_pow_pos b; omega
  unfold blen
  rw [if_neg h0]
  have a1 := (Nat.le_log2 h0).2 h1
  have a2 := (Nat.log2_lt h0).2 h2
  omega
theorem blen_lo {n : Nat} (h0 : n ≠ 0) : 1 ≤ blen n ∧ 2 ^ (blen n - 1) ≤ n := by
  unfold blen
  rw [if_neg h0]
  exact ⟨by omega, (Nat.le_log2 h0).1 (by omega)⟩
theorem blen_hi (n : Nat) : n < 2 ^ blen n := by
  unfold blen
  split
  · rename_i h; subst h; decide
  · rename_i h; exact (Nat.log2_lt h).1 (by omega)
theorem blen_mono {a b : Nat} (h : a ≤ b) : blen a ≤ blen b := by
  by_cases h0 : a = 0
  · subst h0; rw [blen_zero]; omega
  · obtain ⟨h1, h2⟩ := blen_lo h0
    have h3 := blen_hi b
    have := (Nat.pow_lt_pow_iff_right (a := 2) (by decide)).1 (Nat.lt_of_le_of_lt (Nat.le_trans h2 h) h3)
    omega
theorem blen_le_iff {n k : Nat} : blen n ≤ k ↔ n < 2 ^ k := by
  constructor
  · intro h
    exact Nat.lt_of_lt_of_le (blen_hi n) (Nat.pow_le_pow_right (by decide) h)
  · intro h
    by_cases h0 : n = 0
    · subst h0; rw [blen_zero]; omega
    · obtain ⟨h1, h2⟩ := blen_lo h0
      have := (Nat.pow_lt_pow_iff_right (a := 2) (by decide)).1 (Nat.lt_of_le_of_lt h2 h)
      omega
def rbitsSp (xs : List Nat) : Nat := if xs = [] then 0 else 64 * (xs.length - 1) + lenW (lim xs (xs.length - 1))
theorem rbits_val {xs : List Nat} (l : Limbs xs) (n : Norm xs) : rbitsSp xs = blen (val xs) := by
  by_cases h : xs = []
  · subst h; rfl
  · obtain ⟨ys, y, rfl⟩ := exists_snoc h
    have hy : y ≠ 0 := (norm_snoc ys y).1 n
    have hyL : y < LB := (l.right).head
    have hv := val_lt l.left
    unfold rbitsSp
    rw [if_neg h]
    have hlast : lim (ys ++ [y]) ((ys ++ [y]).length - 1) = y := by
      rw [List.length_append]
      exact lim_append_right (i := 0)
    rw [hlast, List.length_append, val_append, val_one]
    simp only [List.length_singleton, Nat.add_sub_cancel]
    obtain ⟨s1, s2, s3⟩ := len_spec y hy hyL
    unfold lenW
    generalize Lib.bitLen y = b at *
    rw [LB_two_pow] at *
    obtain ⟨c, rfl⟩ : ∃ c, b = c + 1 := ⟨b - 1, by omega⟩
    rw [Nat.add_sub_cancel] at s2
    rw [← Nat.add_assoc]
    symm
    apply blen_of
    · rw [Nat.pow_add]
      exact Nat.le_trans (Nat.mul_le_mul_left _ s2) (Nat.le_add_left _ _)
    · rw [Nat.add_assoc, Nat.pow_add]
      generalize 2 ^ (64 * ys.length) = P at *
      have : P * (y + 1) ≤ P * 2 ^ (c + 1) := Nat.mul_le_mul_left _ s3
      rw [Nat.mul_add, Nat.mul_one] at this
      omega
end
section
open Go.RowKit
theorem LB_split {r s : Nat} (h : r + s = 64) : LB = 2 ^ s * 2 ^ r := by
  rw [← Nat.pow_add, Nat.add_comm, h]; rfl
theorem or_low {a r : Nat} (b : Nat) (ha : a < 2 ^ r) : orW a (2 ^ r * b) = a + 2 ^ r * b := by
  unfold orW
  rw [Nat.or_comm, ← Nat.two_pow_add_eq_or_of_lt ha, Nat.add_comm]
theorem shl_form {x r s : Nat} (h : r + s = 64) : shlW x r = 2 ^ r * (x % 2 ^ s) := by
  unfold shlW
  rw [LB_split h, Nat.mul_mod_mul_right, Nat.mul_comm]
theorem shl_split {x r s : Nat} (h : r + s = 64) : shlW x r + LB * shrW x s = x * 2 ^ r := by
  have e : x * 2 ^ r / LB = shrW x s := by
    unfold shrW
    rw [LB_split h, Nat.mul_div_mul_right _ _ (Nat.two_pow_pos r)]
  rw [← e]
  exact Nat.mod_add_div _ _
theorem shr_lt {x r s : Nat} (h : r + s = 64) (hx : x < LB) : shrW x s < 2 ^ r := by
  unfold shrW
  rw [LB_split h] at hx
  exact Nat.div_lt_of_lt_mul hx
theorem shlW_lt (x r : Nat) : shlW x r < LB := Nat.mod_lt _ LB_pos
theorem shrW_lt {x : Nat} (s : Nat) (hx : x < LB) : shrW x s < LB := Nat.lt_of_le_of_lt (Nat.div_le_self _ _) hx
def UpInv (xs : List Nat) (l r i : Nat) (out : List Nat) : Prop :=
  out.length = xs.length + l + 1 ∧ Limbs out ∧ val out = LB ^ l * (2 ^ r * val (xs.take i)) ∧ lim out (i + l) < 2 ^ r ∧ ∀ j, i + l < j → lim out j = 0
theorem UpInv.zero (xs : List Nat) (l r : Nat) : UpInv xs l r 0 (List.replicate (xs.length + l + 1) 0) :=
  ⟨by simp, .replicate _, by rw [val_replicate]; simp, by rw [lim_replicate]; exact Nat.two_pow_pos r, fun j _ => lim_replicate _ _⟩
theorem UpInv.or {xs out : List Nat} {l r s i : Nat} (h : UpInv xs l r i out) (hrs : r + s = 64) (x : Nat) : orW (lim out (i + l)) (shlW x r) = lim out (i + l) + shlW x r := by
  rw [shl_form hrs, or_low _ h.2.2.2.1]
theorem UpInv.step {xs out : List Nat} {l r s i : Nat} (lx : Limbs xs) (hrs : r + s = 64) (hi : i < xs.length) (h : UpInv xs l r i out) :
    UpInv xs l r (i + 1) ((out.set (i + l) (orW (lim out (i + l)) (shlW (lim xs i) r))).set (i + l + 1) (shrW (lim xs i) s)) := by
  have ho := h.or hrs (lim xs i)
  obtain ⟨h1, h2, h3, h4, h5⟩ := h
  have hx := lx.get i
  have hlo : lim out (i + l) + shlW (lim xs i) r < LB := by
    rw [shl_form hrs, LB_split hrs]
    have : lim xs i % 2 ^ s + 1 ≤ 2 ^ s := Nat.mod_lt _ (Nat.two_pow_pos s)
    have := Nat.mul_le_mul_left (2 ^ r) this
    rw [Nat.mul_add, Nat.mul_one, Nat.mul_comm (2 ^ r) (2 ^ s)] at this
    omega
  refine ⟨by simp [h1], (h2.set _ _ (by rw [ho]; exact hlo)).set _ _ (shrW_lt _ hx), ?_, ?_, ?_⟩
  · have e1 := val_set (xs := out) (j := i + l) (orW (lim out (i + l)) (shlW (lim xs i) r)) (by omega)
    have e2 := val_set (xs := out.set (i + l) (orW (lim out (i + l)) (shlW (lim xs i) r))) (j := i + l + 1) (shrW (lim xs i) s) (by rw [List.length_set]; omega)
    rw [lim_set_other (by omega), h5 (i + l + 1) (by omega), Nat.mul_zero, Nat.add_zero] at e2
    rw [ho] at e1 e2 ⊢
    rw [e2, val_take_succ, Nat.mul_add, Nat.mul_add]
    have e3 : val (out.set (i + l) (lim out (i + l) + shlW (lim xs i) r)) = val out + LB ^ (i + l) * shlW (lim xs i) r := by
      rw [Nat.mul_add] at e1; omega
    rw [e3, h3]
    have e4 := shl_split (x := lim xs i) hrs
    have e5 : LB ^ (i + l) * (shlW (lim xs i) r + LB * shrW (lim xs i) s) = LB ^ (i + l) * (lim xs i * 2 ^ r) := by rw [e4]
    rw [Nat.mul_add, ← Nat.mul_assoc, ← Nat.pow_succ] at e5
    have e6 : LB ^ (i + l) * (lim xs i * 2 ^ r) = LB ^ l * (2 ^ r * (LB ^ i * lim xs i)) := by
      rw [Nat.pow_add, Nat.mul_comm (LB ^ i) (LB ^ l), Nat.mul_assoc]
      congr 1
      rw [Nat.mul_comm (lim xs i), Nat.mul_left_comm]
    rw [e6] at e5
    rw [Nat.add_assoc]
    congr 1
  · rw [show i + 1 + l = i + l + 1 by omega, lim_set_same (by rw [List.length_set]; omega)]
    exact shr_lt hrs hx
  · intro j hj
    rw [lim_set_other (by omega), lim_set_other (by omega)]
    exact h5 j (by omega)
theorem UpInv.done {xs out : List Nat} {l r n : Nat} (hn : n = 64 * l + r) (h : UpInv xs l r xs.length out) : digs (val xs * 2 ^ n) = trimz out ∧ Limbs out ∧ out.length = xs.length + l + 1 := by
  obtain ⟨h1, h2, h3, _, _⟩ := h
  refine ⟨?_, h2, h1⟩
  rw [List.take_length] at h3
  rw [← digs_val h2, h3, hn, Nat.pow_add, LB_two_pow, Nat.mul_comm (val xs), Nat.mul_assoc]
theorem val_drop_step {xs : List Nat} {k : Nat} : val (xs.drop k) = lim xs k + LB * val (xs.drop (k + 1)) := by
  by_cases h : k < xs.length
  · rw [drop_cons_lim h]; rfl
  · rw [List.drop_of_length_le (by omega), List.drop_of_length_le (by omega), lim_none (by omega)]; rfl
theorem dn_at {x t r s : Nat} (h : r + s = 64) (hx : x < LB) : orW (shrW x r) (shlW t s) = x / 2 ^ r + 2 ^ s * (t % 2 ^ r) := by
  have h' : s + r = 64 := by omega
  rw [shl_form h', or_low _ (shr_lt h' hx)]; rfl
theorem dn_lt {x t r s : Nat} (h : r + s = 64) (hx : x < LB) : orW (shrW x r) (shlW t s) < LB := by
  have h' : s + r = 64 := by omega
  rw [dn_at h hx, LB_split h]
  have h1 : x / 2 ^ r < 2 ^ s := shr_lt h' hx
  have h2 : t % 2 ^ r + 1 ≤ 2 ^ r := Nat.mod_lt _ (Nat.two_pow_pos r)
  have h3 := Nat.mul_le_mul_left (2 ^ s) h2
  rw [Nat.mul_add, Nat.mul_one] at h3
  omega
theorem dn_eq {x t T2 r s : Nat} (h : r + s = 64) (hx : x < LB) : (x + LB * (t + LB * T2)) / 2 ^ r = orW (shrW x r) (shlW t s) + LB * ((t + LB * T2) / 2 ^ r) := by
  rw [dn_at h hx]
  have hm : (t + LB * T2) % 2 ^ r = t % 2 ^ r := by
    rw [LB_split h, Nat.mul_assoc, Nat.mul_left_comm, Nat.add_mul_mod_self_left]
  have e1 : ∀ T, x + LB * T = x + 2 ^ r * (2 ^ s * T) := fun T => by rw [LB_split h, Nat.mul_comm (2 ^ s), Nat.mul_assoc]
  have e4 : ∀ Q, LB * Q = 2 ^ s * (2 ^ r * Q) := fun Q => by rw [LB_split h, Nat.mul_assoc]
  rw [e1, Nat.add_mul_div_left _ _ (Nat.two_pow_pos r)]
  have e2 := Nat.mod_add_div (t + LB * T2) (2 ^ r)
  rw [hm] at e2
  generalize (t + LB * T2) = T at *
  have e3 : 2 ^ s * T = 2 ^ s * (t % 2 ^ r) + LB * (T / 2 ^ r) := by
    rw [e4, ← Nat.mul_add, e2]
  rw [e3]; omega
def DnInv (xs : List Nat) (l r k : Nat) (cs : List Nat) : Prop := cs.length = k ∧ Limbs cs ∧ val cs + LB ^ k * (val (xs.drop (l + k)) / 2 ^ r) = val (xs.drop l) / 2 ^ r
theorem DnInv.zero (xs : List Nat) (l r : Nat) : DnInv xs l r 0 [] := ⟨rfl, .nil, by simp⟩
theorem DnInv.step {xs cs : List Nat} {l r s k : Nat} (lx : Limbs xs) (h : r + s = 64) (d : DnInv xs l r k cs) :
    DnInv xs l r (k + 1) (cs ++ [orW (shrW (lim xs (k + l)) r) (shlW (lim xs (k + l + 1)) s)]) := by
  obtain ⟨h1, h2, h3⟩ := d
  have hx := lx.get (k + l)
  refine ⟨by simp [h1], h2.append (.one (dn_lt h hx)), ?_⟩
  rw [← h3, val_append, val_one, h1]
  rw [val_drop_step (xs := xs) (k := l + k), val_drop_step (xs := xs) (k := l + k + 1), show l + k = k + l by omega, dn_eq h hx, show l + (k + 1) = k + l + 1 by omega, ← val_drop_step]
  rw [Nat.mul_add, Nat.pow_succ]
  rw [val_drop_step (xs := xs) (k := k + l + 1), Nat.mul_assoc]
  omega
theorem DnInv.done {xs cs : List Nat} {l r n k : Nat} (lx : Limbs xs) (hn : n = 64 * l + r) (hk : xs.length ≤ l + k) (d : DnInv xs l r k cs) : digs (val xs / 2 ^ n) = trimz cs ∧ Limbs cs ∧ cs.length = k := by
  obtain ⟨h1, h2, h3⟩ := d
  rw [List.drop_of_length_le (show xs.length ≤ l + k from hk), val_nil, Nat.zero_div, Nat.mul_zero, Nat.add_zero] at h3
  refine ⟨?_, h2, h1⟩
  rw [← digs_val h2, h3, hn, Nat.pow_add, ← LB_two_pow, ← Nat.div_div_eq_div_mul]
  congr 2
  by_cases hl : l ≤ xs.length
  · have e := val_append (xs.take l) (xs.drop l)
    rw [List.take_append_drop, List.length_take, Nat.min_eq_left hl] at e
    have hlt := val_lt (lx.take l)
    rw [List.length_take, Nat.min_eq_left hl] at hlt
    rw [e, Nat.add_mul_div_left _ _ (LB_pow_pos l), Nat.div_eq_of_lt hlt, Nat.zero_add]
  · rw [List.drop_of_length_le (by omega), val_nil]
    exact Nat.div_eq_of_lt (Nat.lt_of_lt_of_le (val_lt lx) (Nat.pow_le_pow_right LB_pos (by omega)))
end
section
open Go.RowKit Go.Shelf
def GB : Nat := 10000000000000000000
theorem set_drop {cs xs : List Nat} {k : Nat} (x : Nat) (hc : cs.length = k) (h : k < xs.length) : (cs ++ xs.drop k).set k x = (cs ++ [x]) ++ xs.drop (k + 1) := by
  subst hc
  rw [drop_cons_lim h, set_mid, List.append_assoc, List.singleton_append]
end
section
open Go.RowKit Go.Shelf
theorem i64_rem (t : TypeId) (x y : Nat) (hy : 0 < y) : binOp .rem t (.int .i64 (x : Int)) (.int .i64 (y : Int)) = pure (.int .i64 ((x % y : Nat) : Int)) := by
  show Op.intDiv .rem .i64 (x : Int) (y : Int) = _
  unfold Op.intDiv
  rw [if_neg (by omega)]
  rw [IntWalk.rem_in _ _ (by omega)]; simp
theorem i64_sub (t : TypeId) (x y z : Nat) (h : z + y = x) (hx : x ≤ 9223372036854775807) : binOp .sub t (.int .i64 (x : Int)) (.int .i64 (y : Int)) = pure (.int .i64 (z : Int)) := by
  have e : IntKind.i64.wrap ((x : Int) - (y : Int)) = (z : Int) := by rw [IntWalk.i64_in _ ⟨by omega, by omega⟩]; omega
  rw [← e]; rfl
theorem i64_quo (t : TypeId) (x y : Nat) (hx : x ≤ 9223372036854775807) (hy : 0 < y) : binOp .quo t (.int .i64 (x : Int)) (.int .i64 (y : Int)) = pure (.int .i64 ((x / y : Nat) : Int)) := by
  show Op.intDiv .quo .i64 (x : Int) (y : Int) = _
  unfold Op.intDiv
  rw [if_neg (by omega)]
  simp only []
  rw [IntWalk.i64_quo _ _ ⟨by omega, by omega, by omega⟩]; simp
end
section
open Go.RowKit
theorem litSl (w : World) (cur : Array Value) (xs : List Nat) (h : cur.toList = xs.map lv) {g : Nat} (hg : w.heap.size = g) : Sl (w.alloc (.cells cur 128)) (some ⟨g, 0, none⟩) xs := by
  subst hg
  have hs : cur.size = xs.length := by
    have := congrArg List.length h
    simpa using this
  by_cases hm : xs.length ≤ maxLen
  · exact (Own.mk (base := w.heap.size) (cap := xs.length) (cur := cur) (Nat.le_refl _) (heap_alloc_new w _) (Nat.le_refl _) hm hs (by rw [h, ← List.length_map (f := lv), List.take_length])).sl
  · refine .inr ⟨w.heap.size, 0, rfl, by simp, fun j hj => ?_⟩
    rw [cell_of_row (w.alloc (.cells cur 128)) w.heap.size (0 + j) cur _ (0, 0) (heap_alloc_new w _)]
    have : cur.toList[j]? = (xs.map lv)[j]? := by rw [h]
    rw [List.getElem?_map, List.getElem?_eq_getElem hj] at this
    simp only [Array.getElem?_toList] at this
    rw [Nat.zero_add, this, lim_some hj]
    rfl
theorem valid_short {xs : List Nat} (h : xs.length ≤ 64) (hn : Norm xs) : validB xs = true := validB_iff.2 ⟨h, hn⟩
theorem norm1 {x : Nat} (h : x ≠ 0) : Norm [x] := .inr h
theorem limbs1 {x : Nat} (h : x < 18446744073709551616) : Limbs [x] := .one h
theorem digs1 {x : Nat} (h : x < 18446744073709551616) (h0 : x ≠ 0) : digs x = [x] := by
  have := digs_val_norm (limbs1 h) (norm1 h0)
  rwa [val_one] at this
def Keeps (w w' : World) : Prop := ∀ A xs, Sl w A xs → Sl w' A xs
theorem bl_keeps {w w' : World} (h : Below w.heap.size w w') : Keeps w w' := fun _ _ hs => hs.below h (Nat.le_refl _)
theorem bl_allocs {w w' : World} (h : Below w.heap.size w w') (x : Obj) : Below w.heap.size w (w'.alloc x) := h.alloc h.size _
theorem size1 (w : World) (x : Obj) : (w.alloc x).heap.size = w.heap.size + 1 := by simp
theorem bl_trans {w w1 w' : World} (hb : Below w.heap.size w w1) (h : Below w1.heap.size w1 w') : Below w.heap.size w w' := hb.trans (h.mono hb.size)
theorem bl_one {w w' : World} {x : Obj} (b : Below (w.alloc x).heap.size (w.alloc x) w') : Below w.heap.size w w' := bl_trans ((Below.refl w.heap.size w).alloc (Nat.le_refl _) x) b
theorem bl_q0 {w w' : World} {q : Nat} (h : w' = w.drewN q) : Below w.heap.size w w' := by subst h; exact ⟨rfl, rfl, rfl, Nat.le_refl _, fun _ _ => rfl⟩
theorem digs_64 {n : Nat} (h : n < LB ^ 64) : (digs n).length ≤ 64 := length_digs_le.2 h
theorem cell_new (w : World) (cur : Array Value) (t : TypeId) (j : Nat) : (w.alloc (.cells cur t)).cell? ⟨w.heap.size, j, none⟩ = cur[j]? := cell_of_row _ _ _ _ _ (0, 0) (heap_alloc_new w _)
end
section
open Go.RowKit
def validI (s : Bool) (xs : List Nat) : Bool := validB xs && (!s || decide (0 < xs.length))
def isg (z : Int) : Bool := decide (z < 0)
def idg (z : Int) : List Nat := digs z.natAbs
theorem validI_iff {s : Bool} {xs : List Nat} : validI s xs = true ↔ validB xs = true ∧ (s = true → 0 < xs.length) := by
  unfold validI; cases s <;> simp
theorem validI_B {s : Bool} {xs : List Nat} (h : validI s xs = true) : validB xs = true := (validI_iff.1 h).1
theorem digs_len_pos {n : Nat} : 0 < (digs n).length ↔ 0 < n := by
  constructor
  · intro h
    rcases Nat.eq_zero_or_pos n with h0 | h0
    · subst h0; rw [digs_zero] at h; simp at h
    · exact h0
  · intro h
    rcases Nat.eq_zero_or_pos (digs n).length with h0 | h0
    · have := digs_eq_nil.1 (List.eq_nil_of_length_eq_zero h0); omega
    · exact h0
def cmpZ (a b : Int) : Int := if a < b then -1 else if b < a then 1 else 0
theorem cmpZ_pp (a b : Nat) : cmpZ (a : Int) (b : Int) = cmpN a b := by
  unfold cmpZ cmpN
  simp only [Int.ofNat_lt]
theorem cmpZ_nn (a b : Nat) : cmpZ (-(a : Int)) (-(b : Int)) = cmpN b a := by
  unfold cmpZ cmpN
  simp only [Int.neg_lt_neg_iff, Int.ofNat_lt]
theorem validI_any (s : Bool) (A : Option Addr) (c : Nat) (xs : List Nat) (w : World) (hs : Sl w A xs) (hl : xs.length ≤ 9223372036854775807) :
    Calls Tryz.prog 96 #[.agg #[.bool s, .slice A xs.length c]] w fun e w' => e = .returned (.bool (validI s xs)) ∧ Below w.heap.size w w' := by
  have V := hide (fun W (h : Sl W A xs) => valid_any A c xs W h hl)
  have HS := hide hs
  clear hs
  cases hv : validB xs with
  | false =>
    have E := hide (show validI s xs = false by unfold validI; rw [hv]; rfl)
    rw [hv] at V
    clear hv
    generalize xs.length = n at *
    go_enter Tryz.func96, Tryz.ntmps96
    go_wp2_with (go_at_call 98; (with_reducible refine (V.out _ (HS.out.alloc _)).mono ?_); rintro e w' ⟨rfl, rfl⟩)
    go_ret
    exact ⟨ret_bool E.out.symm, ((Below.refl _ _).alloc (Nat.le_refl _) _)⟩
  | true =>
    have E := hide (show validI s xs = (!s || decide (0 < xs.length)) by unfold validI; rw [hv]; rfl)
    rw [hv] at V
    clear hv
    generalize xs.length = n at *
    by_cases h0 : n = 0
    · subst h0
      cases s <;>
      · go_enter Tryz.func96, Tryz.ntmps96
        go_wp2_with (go_at_call 98; (with_reducible refine (V.out _ (HS.out.alloc _)).mono ?_); rintro e w' ⟨rfl, rfl⟩)
        go_ret
        exact ⟨ret_bool (by rw [E.out]; rfl), ((Below.refl _ _).alloc (Nat.le_refl _) _)⟩
    · have hp : 0 < n := by omega
      have E2 := hide (show (!s || decide (0 < n)) = true by simp [hp])
      clear h0
      go_enter Tryz.func96, Tryz.ntmps96
      go_wp2_with (go_at_call 98; (with_reducible refine (V.out _ (HS.out.alloc _)).mono ?_); rintro e w' ⟨rfl, rfl⟩)
      go_ret
      exact ⟨ret_bool (by rw [E.out, E2.out]), ((Below.refl _ _).alloc (Nat.le_refl _) _)⟩
theorem bl_al {w w' : World} (h : Below w.heap.size w w') (x : Obj) : Below w.heap.size w (w'.alloc x) := h.alloc h.size _
theorem cell_next {w w' : World} (hb : Below w.heap.size w w') {p : Addr} {v : Value} (h : w.cell? p = some v) : w'.cell? p = some v := by
  rw [← h]
  refine hb.cell ?_
  unfold World.cell? at h
  cases hh : w.heap[p.block]? with
  | none => rw [hh] at h; cases h
  | some y => exact (Array.getElem?_eq_some_iff.1 hh).1
theorem frozen_next {w w' : World} (hb : Below w.heap.size w w') {p : Addr} {v : Value} (h : w.cell? p = some v) (hf : w.frozen? p = false) : w'.frozen? p = false := by
  rw [← hf]
  refine hb.frozen ?_
  unfold World.cell? at h
  cases hh : w.heap[p.block]? with
  | none => rw [hh] at h; cases h
  | some y => exact (Array.getElem?_eq_some_iff.1 hh).1
theorem Sl.setCell_not {w : World} {A : Option Addr} {xs : List Nat} (h : Sl w A xs) {p : Addr} {v : Value} (hc : w.cell? p = some v) (hv : ∀ z, v ≠ .int .u64 z) (u : Value) : Sl (w.setCell p u) A xs := by
  rcases h with h | ⟨b, o, e, h⟩
  · exact .inl h
  · refine .inr ⟨b, o, e, by rw [setCell_size]; exact h.1, fun j hj => ?_⟩
    have h1 := h.2 j hj
    rw [World.cell?_setCell_other _ _ _ _ (by
      rintro rfl
      rw [hc] at h1
      exact hv _ (Option.some.inj h1))]
    exact h1
theorem Sl.store2 {w : World} {A : Option Addr} {xs : List Nat} (h : Sl w A xs) {g : Nat} {e : Bool} {B : Option Addr} {n c : Nat} (h0 : w.cell? ⟨g, 0, none⟩ = some (.bool e)) (h1 : w.cell? ⟨g, 1, none⟩ = some (.slice B n c)) (u v : Value) : Sl ((w.setCell ⟨g, 0, none⟩ u).setCell ⟨g, 1, none⟩ v) A xs := by
  refine (h.setCell_not h0 (fun z => by intro k; cases k) u).setCell_not (v := .slice B n c) ?_ (fun z => by intro k; cases k) v
  rw [World.cell?_setCell_other _ _ _ _ (by intro k; injection k with _ k _; cases k)]
  exact h1
theorem Below.store2 {w w' : World} (b : Below w.heap.size w w') {g : Nat} (hg : w.heap.size ≤ g) (u v : Value) : Below w.heap.size w ((w'.setCell ⟨g, 0, none⟩ u).setCell ⟨g, 1, none⟩ v) := (b.setCell hg _).setCell hg _
def IOne (w : World) (r : Bool × List Nat) (e : Ending) (w' : World) : Prop := ∃ A c, e = .returned (.agg #[.bool r.1, .slice A r.2.length c]) ∧ Sl w' A r.2 ∧ Below w.heap.size w w'
theorem IOne.mk {w w' : World} {r : Bool × List Nat} {s : Bool} {xs : List Nat} {n c : Nat} {A : Option Addr} (hr : r = (s, xs)) (hn : xs.length = n) (hs : Sl w' A xs) (hb : Below w.heap.size w w') : IOne w r (.returned (.agg #[.bool s, .slice A n c])) w' := by
  subst hr; subst hn; exact ⟨A, c, rfl, hs, hb⟩
def mkI (z : Int) : Bool × List Nat := (isg z, idg z)
theorem idg_one {z : Int} (h : z ≠ 0) (h1 : z.natAbs < LB) : idg z = [z.natAbs] := digs1 h1 (by omega)
theorem cells2 (w : World) (u v : Value) (t : TypeId) : (w.alloc (.cells #[u, v] t)).cell? ⟨w.heap.size, 0, none⟩ = some u ∧ (w.alloc (.cells #[u, v] t)).cell? ⟨w.heap.size, 1, none⟩ = some v ∧ (w.alloc (.cells #[u, v] t)).frozen? ⟨w.heap.size, 0, none⟩ = false ∧ (w.alloc (.cells #[u, v] t)).frozen? ⟨w.heap.size, 1, none⟩ = false := by
  have hn := heap_alloc_new w (.cells #[u, v] t)
  exact ⟨cell_new _ _ _ 0, cell_new _ _ _ 1, by unfold World.frozen?; rw [hn]; rfl, by unfold World.frozen?; rw [hn]; rfl⟩
theorem neg_wrap {z : Int} (h : z < 0) (h1 : -9223372036854775808 ≤ z) : IntKind.u64.wrap (-IntKind.u64.wrap z) = ((z.natAbs : Nat) : Int) := by
  rw [IntKind.wrap_u64, IntKind.wrap_u64]; omega
theorem ofI_any (z : Int) (w : World) (h1 : -9223372036854775808 ≤ z) (h2 : z ≤ 9223372036854775807) :
    Calls Tryz.prog 65 #[.int .i64 z] w (IOne w (mkI z)) := by
  rcases Int.lt_trichotomy z 0 with h | h | h
  · have E := hide (show mkI z = (true, [z.natAbs]) by unfold mkI; rw [idg_one (by omega) (by rw [LB_eq]; omega)]; unfold isg; rw [decide_eq_true h])
    have h0 : ¬ 0 ≤ z := by omega
    obtain ⟨x1, x2, x3, x4⟩ := cells2 w (.bool false) (.slice none 0 0) 125
    go_enter Tryz.func65, Tryz.ntmps65
    go_wp2
    refine bodyPost_ret (v := .agg #[.bool true, .slice (some ⟨w.heap.size + 1, 0, none⟩) 1 1]) (by simp [results, Tryz.results65, go_sem]) rfl (IOne.mk E.out rfl ?_ (bl_al (bl_al (.refl _ _) _) _))
    rw [neg_wrap h h1]
    exact litSl _ _ [z.natAbs] rfl (size1 _ _)
  · subst h
    have E := hide (show mkI 0 = (false, []) by unfold mkI isg idg; rw [show (0 : Int).natAbs = 0 from rfl, digs_zero]; rfl)
    have O := hide (fun W => of_no 0 (Int.le_refl 0) W)
    have X := hide (cells2 w (.bool false) (.slice none 0 0) 125)
    go_enter Tryz.func65, Tryz.ntmps65
    go_wp2_with (go_at_call 89; (with_reducible refine (O.out _).mono ?_); rintro e w1 ⟨A3, c3, rfl, r3, hb⟩; have x1 := cell_next hb X.out.1; have x2 := cell_next hb X.out.2.1; have x3 := frozen_next hb X.out.1 X.out.2.2.1; have x4 := frozen_next hb X.out.2.1 X.out.2.2.2; have s3 := hide r3.sl; have b1 := bl_one hb; clear r3 hb)
    exact bodyPost_ret (v := .agg #[.bool false, .slice A3 0 c3]) (by simp [results, Tryz.results65, go_sem, x1, x2]) rfl (IOne.mk E.out rfl (s3.out.store2 x1 x2 _ _) (Below.store2 b1 (Nat.le_refl _) _ _))
  · obtain ⟨n, rfl⟩ : ∃ n : Nat, z = (n : Int) := ⟨z.toNat, by omega⟩
    have E := hide (show mkI (n : Int) = (false, [n]) by unfold mkI; rw [idg_one (by omega) (by rw [LB_eq]; omega), Int.natAbs_natCast]; unfold isg; rw [decide_eq_false (by omega)])
    have O := hide (fun W => of_any n (by omega) (by omega) W)
    have X := hide (cells2 w (.bool false) (.slice none 0 0) 125)
    go_enter Tryz.func65, Tryz.ntmps65
    go_wp2_with (go_at_call 89; (with_reducible refine (O.out _).mono ?_); rintro e w1 ⟨A3, c3, rfl, r3, hb⟩; have x1 := cell_next hb X.out.1; have x2 := cell_next hb X.out.2.1; have x3 := frozen_next hb X.out.1 X.out.2.2.1; have x4 := frozen_next hb X.out.2.1 X.out.2.2.2; have s3 := hide r3.sl; have b1 := bl_one hb; clear r3 hb)
    exact bodyPost_ret (v := .agg #[.bool false, .slice A3 1 c3]) (by simp [results, Tryz.results65, go_sem, x1, x2]) rfl (IOne.mk E.out rfl (s3.out.store2 x1 x2 _ _) (Below.store2 b1 (Nat.le_refl _) _ _))
end
end Nt
end Go.Proofs.YthabfakbdfaciaaGreat
