
/-
  The law DecimalForms.
-/
import Derived.Test.YtboppbidldomhaaGreatDoorLawDShows

import Derived.Deep.RegionHeld3

namespace Go.Proofs.YtboppbidldomhaaGreatDoor

open Go.RowKit

namespace Nt

theorem dec_head (n : Nat) : 0 < n → (Lib.decDigits n).head? ≠ some 48 := by
  induction n using Nat.strongRecOn with
  | _ n ih =>
    intro hn
    by_cases h : n < 10
    · rw [dec_small h]
      intro e
      simp only [List.head?_cons, Option.some.injEq] at e
      have := congrArg UInt8.toNat e
      rw [UInt8.toNat_ofNat'] at this
      have h2 : (48 : UInt8).toNat = 48 := rfl
      omega
    · rw [dec_big h]
      have h1 := ih (n / 10) (by omega) (by omega)
      have h2 : Lib.decDigits (n / 10) ≠ [] := by
        have := (textp (n / 10)).1
        unfold digitsB at this
        simp only [Bool.and_eq_true, decide_eq_true_eq] at this
        exact this.2
      cases e : Lib.decDigits (n / 10) with
      | nil => exact absurd e h2
      | cons c l =>
        rw [e] at h1
        simpa using h1
theorem numB_dec (n : Nat) : numB (Lib.decDigits n) = true := by
  unfold numB
  rcases Nat.eq_zero_or_pos n with h | h
  · subst h
    rw [show Lib.decDigits 0 = [48] from dec_small (by decide)]
    rfl
  · rw [(textp n).1, decide_eq_true (dec_head n h), Bool.true_and, Bool.or_true]
theorem dig_46 {l : List UInt8} (h : l.all isD = true) : (46 : UInt8) ∉ l := fun m => absurd (List.all_eq_true.1 h 46 m) (by decide)
theorem drop_46 {l : List UInt8} (h : (46 : UInt8) ∉ l) : l.dropWhile (· != 46) = [] := by
  induction l with
  | nil => rfl
  | cons c l ih =>
    have hc : (c != 46) = true := by
      have : c ≠ 46 := by rintro rfl; exact h (by simp)
      simpa using this
    rw [List.dropWhile_cons, if_pos hc]
    exact ih (fun m => h (List.mem_cons_of_mem _ m))
theorem point_46 {u v : List UInt8} (h : (46 : UInt8) ∉ u) : (u ++ 46 :: v).takeWhile (· != 46) = u ∧ (u ++ 46 :: v).dropWhile (· != 46) = 46 :: v := by
  have h' : ∀ a ∈ u, (a != 46) = true := fun a ha => by
    have : a ≠ 46 := by rintro rfl; exact h ha
    simpa using this
  rw [List.takeWhile_append_of_pos h', List.dropWhile_append_of_pos h']
  simp
theorem no_plain {l : List UInt8} (h : (46 : UInt8) ∉ l) (hn : numB l = false) : decSp l = none := by rw [decSp_plain (drop_46 h), hn]; rfl
theorem no_point {u v : List UInt8} (h : (46 : UInt8) ∉ u) (hn : numB u = false ∨ digitsB v = false) : decSp (u ++ 46 :: v) = none := by
  rw [decSp_point (point_46 h).2, (point_46 h).1]
  rcases hn with e | e
  · rw [e]; rfl
  · rw [e, Bool.and_false]; rfl
theorem notD {l : List UInt8} {c : UInt8} (h : c ∈ l) (hc : isD c = false) (h48 : c ≠ 48) : numB l = false := by
  have h1 : l.all isD = false := by
    rw [List.all_eq_false]
    exact ⟨c, h, by rw [hc]; decide⟩
  unfold numB digitsB
  rw [h1, Bool.false_and, Bool.false_and, Bool.or_false]
  exact decide_eq_false (fun e => by rw [e] at h; exact h48 (by simpa using h))
theorem notD' {l : List UInt8} {c : UInt8} (h : c ∈ l) (hc : isD c = false) : digitsB l = false := by
  have h1 : l.all isD = false := by
    rw [List.all_eq_false]
    exact ⟨c, h, by rw [hc]; decide⟩
  unfold digitsB
  rw [h1, Bool.false_and]
/-- The texts, in their order. -/
def formL (D T : List UInt8) : Nat → List UInt8
  | 0 => D
  | 1 => D ++ 46 :: T
  | 2 => 48 :: D
  | 3 => D ++ [46]
  | 4 => 46 :: T
  | 5 => 45 :: D
  | 6 => (D ++ 46 :: T) ++ [46, 49]
  | 7 => D ++ [101, 49]
  | 8 => 43 :: D
  | 9 => 32 :: D
  | _ => []
theorem form_none (n : Nat) (T : List UInt8) (i : Nat) (hi : 2 ≤ i) : decSp (formL (Lib.decDigits n) T i) = none := by
  have hd := digitsB_all (textp n).1
  have h46 := dig_46 hd
  have hne : Lib.decDigits n ≠ [] := by
    have := (textp n).1
    unfold digitsB at this
    simp only [Bool.and_eq_true, decide_eq_true_eq] at this
    exact this.2
  generalize Lib.decDigits n = D at *
  match i, hi with
  | 2, _ =>
    show decSp (48 :: D) = none
    refine no_plain (by simp [h46]) ?_
    unfold numB
    rw [decide_eq_false (by simpa using hne), Bool.false_or]
    simp
  | 3, _ => exact no_point (u := D) (v := []) h46 (.inr rfl)
  | 4, _ => exact no_point (u := []) (v := T) (by simp) (.inl rfl)
  | 5, _ => exact no_plain (l := 45 :: D) (by simp [h46]) (notD (c := 45) (by simp) (by decide) (by decide))
  | 6, _ =>
    show decSp ((D ++ 46 :: T) ++ [46, 49]) = none
    rw [List.append_assoc, List.cons_append]
    exact no_point h46 (.inr (notD' (c := 46) (by simp) (by decide)))
  | 7, _ => exact no_plain (l := D ++ [101, 49]) (by simp [h46]) (notD (c := 101) (by simp) (by decide) (by decide))
  | 8, _ => exact no_plain (l := 43 :: D) (by simp [h46]) (notD (c := 43) (by simp) (by decide) (by decide))
  | 9, _ => exact no_plain (l := 32 :: D) (by simp [h46]) (notD (c := 32) (by simp) (by decide) (by decide))
  | k + 10, _ => rfl
theorem form_zero (n : Nat) : decSp (Lib.decDigits n) = some (qmk false n 1) := by
  have hd := digitsB_all (textp n).1
  rw [decSp_plain (drop_46 (dig_46 hd)), numB_dec, (textp n).2.1]; rfl
theorem form_one (n : Nat) {T : List UInt8} (h : digitsB T = true) : decSp (Lib.decDigits n ++ 46 :: T) = some (qmk false (decV (Lib.decDigits n ++ T)) (10 ^ T.length)) := by
  have hd := digitsB_all (textp n).1
  rw [decSp_point (point_46 (dig_46 hd)).2, (point_46 (dig_46 hd)).1, numB_dec, h]; rfl
theorem form_floor (n : Nat) {T : List UInt8} (h : T.all isD = true) : ∀ q, qmk false (decV (Lib.decDigits n ++ T)) (10 ^ T.length) = q → qs q = false ∧ qn q / qd q = n := by
  rintro q rfl
  have h0 : 10 ^ T.length ≠ 0 := Nat.pos_iff_ne_zero.1 (Nat.pow_pos (by decide))
  have hp : 0 < 10 ^ T.length := Nat.pow_pos (by decide)
  rw [qs_mk _ _ h0, qn_mk _ _ h0, qd_mk _ _ h0, Bool.false_and]
  refine ⟨rfl, ?_⟩
  have hT := decV_lt h
  have hv : decV (Lib.decDigits n ++ T) / 10 ^ T.length = n := by
    rw [decV_append, (textp n).2.1, Nat.mul_comm n, Nat.mul_add_div hp, Nat.div_eq_of_lt hT, Nat.add_zero]
  generalize decV (Lib.decDigits n ++ T) = x at *
  generalize 10 ^ T.length = y at *
  obtain ⟨g, hg⟩ : ∃ g, Nat.gcd x y = g := ⟨_, rfl⟩
  have gp : 0 < g := by rw [← hg]; exact Nat.gcd_pos_of_pos_right _ hp
  obtain ⟨a, ha⟩ : ∃ a, x = g * a := by rw [← hg]; exact Nat.gcd_dvd_left x y
  obtain ⟨b, hb⟩ : ∃ b, y = g * b := by rw [← hg]; exact Nat.gcd_dvd_right x y
  rw [hg, ← hv, ha, hb, Nat.mul_div_cancel_left _ gp, Nat.mul_div_cancel_left _ gp, Nat.mul_div_mul_left _ _ gp]
set_option maxRecDepth 100000 in
set_option maxHeartbeats 4000000 in
/-- The reference's Floor of what is not below 0. -/
theorem rfloor_n (q : Rat) (A B : Option Addr) (a b : Nat) (w : World) (sA : Sl w A (digs (qn q))) (sB : Sl w B (digs (qd q))) (f1 : fitq q) (hs : qs q = false) (n : Nat) (hn : qn q / qd q = n) :
    Calls Tryz.prog 40 #[.agg #[.bool (qs q), .slice A (ln (qn q)) a, .slice B (ln (qd q)) b]] w fun e w' => ∃ A c, e = .returned (.agg #[.bool false, .slice A (ln n) c]) ∧ Sl w' A (digs n) ∧ Below w.heap.size w w' := by
  have V1 := hide (fun W (k : Below w.heap.size w W) => rvalid_q q A B a b W (kp' k sA) (kp' k sB) f1)
  have DV0 := fun W (k : Below w.heap.size w W) => rdivmod_num A B a b (qn q) (qd q) (ln (qn q)) (ln (qd q)) W rfl rfl (kp' k sA) (kp' k sB) (Nat.le_trans f1.1 (by decide)) (Nat.le_trans f1.2 (by decide)) (qd_pos q)
  obtain ⟨r, hr⟩ : ∃ r, qn q % qd q = r := ⟨_, rfl⟩
  rw [hn, hr] at DV0
  have DV : Hid (∀ W, Below w.heap.size w W → Calls Tryz.prog 84 #[.slice A (ln (qn q)) a, .slice B (ln (qd q)) b] W fun e w' => ∃ A c B d, e = .returned (.tuple #[.slice A (ln n) c, .slice B (ln r) d]) ∧ Sl w' A (digs n) ∧ Sl w' B (digs r) ∧ Below W.heap.size W w') := DV0
  have nl : ln n ≤ 64 := Nat.le_trans (ln_mono (by rw [← hn]; exact Nat.div_le_self _ _)) f1.1
  have WH := hide (fun X e W => rwhole_any false X (ln n) e W (by omega))
  rw [hs] at V1 ⊢
  clear DV0 sA sB f1 hs hn hr nl
  generalize ln (qn q) = i1 at *
  generalize ln (qd q) = i2 at *
  have X1 := hide ((Q3.new (.bool false) (.slice A i1 a) (.slice B i2 b) w).al (.cells #[.bool false, .slice none 0 0] 50))
  have X2 := hide (Q2.new1 (.bool false) (.slice none 0 0) w (.cells #[.bool false, .slice A i1 a, .slice B i2 b] 24))
  have b0 : Below w.heap.size w ((w.alloc (.cells #[.bool false, .slice A i1 a, .slice B i2 b] 24)).alloc (.cells #[.bool false, .slice none 0 0] 50)) := bl_al (bl_al (.refl _ _) _) _
  go_enter Tryz.func40, Tryz.ntmps40
  go_wp2_with (first
    | (go_at_call 26; (with_reducible refine (V1.out _ b0).mono ?_); rintro e w1 ⟨rfl, hb⟩; have X1 := hide (X1.out.next hb); have X2 := hide (X2.out.next hb); obtain ⟨x1, x2, x3, x4, x5, x6⟩ := X1.out; have b1 := bl_trans b0 hb; clear hb)
    | (go_at_call 84; (with_reducible refine (DV.out _ b1).mono ?_); rintro e w2 ⟨A2, c2, B2, d2, rfl, s2, t2, hb⟩; have X1 := hide (X1.out.next hb); have X2 := hide (X2.out.next hb); clear x1 x2 x3 x4 x5 x6; obtain ⟨x1, x2, x3, x4, x5, x6⟩ := X1.out; have b2 := bl_trans b1 hb; clear hb)
    | (go_at_call 90; (with_reducible refine (WH.out A2 c2 _).mono ?_); rintro e w3 ⟨rfl, hb⟩; have X2 := hide (X2.out.next hb); obtain ⟨y1, y2, y3, y4⟩ := X2.out; have b3 := bl_trans b2 hb; have s3 := kp' hb s2; clear hb))
  exact bodyPost_ret (v := .agg #[.bool false, .slice A2 (ln n) c2]) (by simp [results, Tryz.results40, go_sem, y1, y2]) rfl ⟨A2, c2, rfl, s3.store2 y1 y2 _ _, Below.store2 b3 (by omega) _ _⟩


theorem k5k {c1 c2 c3 c4 c5 k : Prop} (h : c1 ∧ c2 ∧ c3 ∧ c4 ∧ c5 ∧ k) : k := h.2.2.2.2.2
theorem S5k_next {w w' : World} (hb : Below w.heap.size w w') {p1 p2 p3 p4 p5 : Addr} {v1 v2 v3 v4 v5 : Value} {w0 : World} {l : List (Option Addr × List Nat)}
    (h : w.cell? p1 = some v1 ∧ w.cell? p2 = some v2 ∧ w.cell? p3 = some v3 ∧ w.cell? p4 = some v4 ∧ w.cell? p5 = some v5 ∧ K6 w0 l w) : w'.cell? p1 = some v1 ∧ w'.cell? p2 = some v2 ∧ w'.cell? p3 = some v3 ∧ w'.cell? p4 = some v4 ∧ w'.cell? p5 = some v5 ∧ K6 w0 l w' := by
  obtain ⟨h1, h2, h3, h4, h5, k⟩ := h
  exact ⟨cell_next hb h1, cell_next hb h2, cell_next hb h3, cell_next hb h4, cell_next hb h5, k.next hb⟩
theorem cell_fresh (u : World) (vals : Array Value) (t : TypeId) (i : Nat) (v : Value) (h : vals[i]? = some v) : (u.alloc (.cells vals t)).cell? ⟨u.heap.size, i, none⟩ = some v := (cell_new u vals t i).trans h
theorem i64_remI (t : TypeId) (x y : Int) (hy : y ≠ 0) : binOp .rem t (.int .i64 x) (.int .i64 y) = pure (.int .i64 (x.tmod y)) := by
  show Op.intDiv .rem .i64 x y = _
  unfold Op.intDiv
  rw [if_neg hy]
theorem form_size (D T : List UInt8) (i : Nat) (hD : D.length ≤ 400) (hT : T.length ≤ 30) : (formL D T i).length ≤ 500 := by
  match i with
  | 0 => show D.length ≤ 500; omega
  | 1 => show (D ++ 46 :: T).length ≤ 500; simp; omega
  | 2 => show (48 :: D).length ≤ 500; simp; omega
  | 3 => show (D ++ [46]).length ≤ 500; simp; omega
  | 4 => show (46 :: T).length ≤ 500; simp; omega
  | 5 => show (45 :: D).length ≤ 500; simp; omega
  | 6 => show ((D ++ 46 :: T) ++ [46, 49]).length ≤ 500; simp; omega
  | 7 => show (D ++ [101, 49]).length ≤ 500; simp; omega
  | 8 => show (43 :: D).length ≤ 500; simp; omega
  | 9 => show (32 :: D).length ≤ 500; simp; omega
  | k + 10 => show ([] : List UInt8).length ≤ 500; simp
/-- The eleven texts as they are put together. -/
theorem form_at (D1 T E1 E2 E3 E4 E5 E6 E7 E8 E9 : ByteArray) (h3 : D1 ++ ⟨#[46]⟩ = E3) (h1 : E3 ++ T = E1) (h2 : ⟨#[48]⟩ ++ D1 = E2) (h4 : ⟨#[46]⟩ ++ T = E4) (h5 : ⟨#[45]⟩ ++ D1 = E5) (h6 : E1 ++ ⟨#[46, 49]⟩ = E6) (h7 : D1 ++ ⟨#[101, 49]⟩ = E7) (h8 : ⟨#[43]⟩ ++ D1 = E8) (h9 : ⟨#[32]⟩ ++ D1 = E9) (i : Nat) (hi : i < 11) :
    ∃ S : ByteArray, (#[Value.string D1, .string E1, .string E2, .string E3, .string E4, .string E5, .string E6, .string E7, .string E8, .string E9, .string ⟨#[]⟩] : Array Value)[i]? = some (.string S) ∧ S.data.toList = formL D1.data.toList T.data.toList i := by
  subst h3 h1 h2 h4 h5 h6 h7 h8 h9
  match i, hi with
  | 0, _ => exact ⟨_, rfl, rfl⟩
  | 1, _ => exact ⟨_, rfl, by show _ = D1.data.toList ++ 46 :: T.data.toList; simp⟩
  | 2, _ => exact ⟨_, rfl, by show _ = 48 :: D1.data.toList; simp⟩
  | 3, _ => exact ⟨_, rfl, by show _ = D1.data.toList ++ [46]; simp⟩
  | 4, _ => exact ⟨_, rfl, by show _ = 46 :: T.data.toList; simp⟩
  | 5, _ => exact ⟨_, rfl, by show _ = 45 :: D1.data.toList; simp⟩
  | 6, _ => exact ⟨_, rfl, by show _ = (D1.data.toList ++ 46 :: T.data.toList) ++ [46, 49]; simp⟩
  | 7, _ => exact ⟨_, rfl, by show _ = D1.data.toList ++ [101, 49]; simp⟩
  | 8, _ => exact ⟨_, rfl, by show _ = 43 :: D1.data.toList; simp⟩
  | 9, _ => exact ⟨_, rfl, by show _ = 32 :: D1.data.toList; simp⟩
  | 10, _ => exact ⟨_, rfl, rfl⟩

set_option linter.unusedSimpArgs false in
set_option maxRecDepth 100000 in
set_option maxHeartbeats 16000000 in
theorem forms_in (N : Nat) (T : ByteArray) (k : Int) (w : World) (n2 : N ≤ 9223372036854775807) (t1 : 1 ≤ T.size) (t2 : T.size ≤ 30) (ht : Pow10 w) :
    Calls Tryz.prog 6 #[.int .i64 (N : Int), .string T, .int .i64 k] w fun e w' => e = .returned (.bool true) ∧ Below w.heap.size w w' := by
  have AW := hide (fun W (b : Below w.heap.size w W) => awake4_any W (pow_below ht b))
  have c1 := lssI_f 3 (show (0 : Int) ≤ (N : Int) by omega)
  have c2 := lssI_f 3 (show (1 : Int) ≤ (T.size : Int) by omega)
  have c3 := gtrI_f 3 (show (T.size : Int) ≤ 30 by omega)
  obtain ⟨r, hr⟩ : ∃ r, k.tmod 11 = r := ⟨_, rfl⟩
  have rb : -11 < r ∧ r < 11 := by
    rw [← hr]
    have h1 := Int.tmod_lt_of_pos k (show (0 : Int) < 11 by decide)
    have h2 := Int.lt_tmod_of_pos k (show (0 : Int) < 11 by decide)
    exact ⟨h2, h1⟩
  obtain ⟨i, hi⟩ : ∃ i : Nat, (r + 11).tmod 11 = (i : Int) := ⟨((r + 11).tmod 11).toNat, by
    have := Int.tmod_nonneg 11 (show 0 ≤ r + 11 by omega)
    omega⟩
  have ib : i < 11 := by
    have := Int.tmod_lt_of_pos (r + 11) (show (0 : Int) < 11 by decide)
    omega
  have m1 := i64_remI 3 k 11 (by decide)
  have m2 : IntKind.i64.wrap (r + 11) = r + 11 := IntWalk.i64_in _ ⟨by omega, by omega⟩
  have m3 := i64_remI 3 (r + 11) 11 (by decide)
  rw [hr] at m1
  rw [hi] at m3
  have TB := hide (And.intro t1 t2)
  have NB := hide n2
  clear hr rb hi
  go_enter Tryz.func6, Tryz.ntmps6
  go_wp2
  clear c1 c2 c3
  go_loop [7] (fun iv => ∃ j : Nat, j ≤ T.size ∧ iv = .int .i64 j ∧ (T.data.toList.take j).all isD = true) (fun iv => T.size - (intOf iv).toNat)
  case atStart => exact ⟨0, Nat.zero_le _, rfl, rfl⟩
  case round =>
    obtain ⟨j, hj, rfl, hd⟩ := hrel
    by_cases hlt : j < T.size
    · have hsn := take_snoc T j hlt
      by_cases h1 : T[j].toNat < 48
      · have h1' : (T[j].toNat : Int) < 48 := by omega
        clear hd hsn h1 m1 m2 m3
        go_wp2_with (go_at_call 27; (with_reducible refine (AW.out _ (.refl _ _)).mono ?_); rintro e w1 ⟨rfl, hb⟩)
        go_ret
        exact ⟨rfl, hb⟩
      · have h1' : (48 : Int) ≤ (T[j].toNat : Int) := by omega
        by_cases h2 : 57 < T[j].toNat
        · have h2' : (57 : Int) < (T[j].toNat : Int) := by omega
          clear hd hsn h1 h2 m1 m2 m3
          go_wp2_with (go_at_call 27; (with_reducible refine (AW.out _ (.refl _ _)).mono ?_); rintro e w1 ⟨rfl, hb⟩)
          go_ret
          exact ⟨rfl, hb⟩
        · have h2' : (T[j].toNat : Int) ≤ 57 := by omega
          have H := hide (show (T.data.toList.take (j + 1)).all isD = true by
            rw [hsn, List.all_append, hd, Bool.true_and]
            have : isD T[j] = true := by unfold isD; exact decide_eq_true (by omega)
            simp [this])
          clear hd hsn h1 h2 m1 m2 m3
          go_wp2
          go_round
          case rel => exact ⟨j + 1, by omega, by go_num, H.out⟩
          case measure => simp [intOf]; omega
    · obtain rfl : j = T.size := by omega
      rw [List.take_of_length_le (by rw [← Lib.size_eq]; exact Nat.le_refl _)] at hd
      have hdig : digitsB T.data.toList = true := by
        unfold digitsB
        rw [hd, Bool.true_and, decide_eq_true_eq]
        intro e
        have h1 := TB.out.1
        have h2 := Lib.size_eq T
        rw [e] at h2
        have h3 : T.size = 0 := h2
        omega
      have dl : (Lib.decDigits N).length ≤ 20 := dec_len_le (k := 19) (by have := NB.out; omega)
      obtain ⟨D1, hD1⟩ : ∃ D : ByteArray, D = ⟨(Lib.decDigits N).toArray⟩ := ⟨_, rfl⟩
      have l1 : D1.data.toList = Lib.decDigits N := by rw [hD1]
      have z1 : D1.size ≤ 20 := by rw [Lib.size_eq, l1]; exact dl
      have nl : ln N ≤ 64 := Nat.le_trans (ln_le (k := 1) (by rw [Nat.pow_one, LB_eq]; have := NB.out; omega)) (by decide)
      have TI : Hid (∀ X e W, Sl W X (digs N) → Calls Tryz.prog 38 #[.agg #[.bool false, .slice X (ln N) e]] W fun e w' => e = .returned (.string D1) ∧ Below W.heap.size W w') := fun X e W s => by rw [hD1]; exact rtextI_n X e N W s nl
      have OI : Hid (∀ W, Calls Tryz.prog 39 #[.int .i64 (N : Int)] W fun e w' => ∃ A c, e = .returned (.agg #[.bool false, .slice A (ln N) c]) ∧ Sl w' A (digs N) ∧ Below W.heap.size W w') := fun W => rof_z (N : Int) W (by omega) (by have := NB.out; omega)
      have SI : Hid (∀ X Y e g W, Sl W X (digs N) → Sl W Y (digs N) → Calls Tryz.prog 41 #[.agg #[.bool false, .slice X (ln N) e], .agg #[.bool false, .slice Y (ln N) g]] W fun e w' => e = .returned (.bool true) ∧ Below W.heap.size W w') := fun X Y e g W s1 s2 => sameInt_z (N : Int) (N : Int) X Y e g W s1 s2 (Nat.le_trans nl (by decide)) (Nat.le_trans nl (by decide)) true (decide_eq_true rfl)
      have sb1 : (⟨#[46]⟩ : ByteArray).size = 1 := rfl
      have sb2 : (⟨#[48]⟩ : ByteArray).size = 1 := rfl
      have sb3 : (⟨#[45]⟩ : ByteArray).size = 1 := rfl
      have sb4 : (⟨#[46, 49]⟩ : ByteArray).size = 2 := rfl
      have sb5 : (⟨#[101, 49]⟩ : ByteArray).size = 2 := rfl
      have sb6 : (⟨#[43]⟩ : ByteArray).size = 1 := rfl
      have sb7 : (⟨#[32]⟩ : ByteArray).size = 1 := rfl
      have p3 := op_cat 9 (D1) (⟨#[46]⟩) (by have := TB.out.2; omega)
      obtain ⟨E3, h3⟩ : ∃ X : ByteArray, (D1) ++ (⟨#[46]⟩) = X := ⟨_, rfl⟩
      rw [h3] at p3
      have y3 : E3.size ≤ 30 := by rw [← h3, ByteArray.size_append]; have := TB.out.2; omega
      have p1 := op_cat 9 (E3) (T) (by have := TB.out.2; omega)
      obtain ⟨E1, h1⟩ : ∃ X : ByteArray, (E3) ++ (T) = X := ⟨_, rfl⟩
      rw [h1] at p1
      have y1 : E1.size ≤ 60 := by rw [← h1, ByteArray.size_append]; have := TB.out.2; omega
      have p2 := op_cat 9 (⟨#[48]⟩) (D1) (by have := TB.out.2; omega)
      obtain ⟨E2, h2⟩ : ∃ X : ByteArray, (⟨#[48]⟩) ++ (D1) = X := ⟨_, rfl⟩
      rw [h2] at p2
      have y2 : E2.size ≤ 100 := by rw [← h2, ByteArray.size_append]; have := TB.out.2; omega
      have p4 := op_cat 9 (⟨#[46]⟩) (T) (by have := TB.out.2; omega)
      obtain ⟨E4, h4⟩ : ∃ X : ByteArray, (⟨#[46]⟩) ++ (T) = X := ⟨_, rfl⟩
      rw [h4] at p4
      have y4 : E4.size ≤ 100 := by rw [← h4, ByteArray.size_append]; have := TB.out.2; omega
      have p5 := op_cat 9 (⟨#[45]⟩) (D1) (by have := TB.out.2; omega)
      obtain ⟨E5, h5⟩ : ∃ X : ByteArray, (⟨#[45]⟩) ++ (D1) = X := ⟨_, rfl⟩
      rw [h5] at p5
      have y5 : E5.size ≤ 100 := by rw [← h5, ByteArray.size_append]; have := TB.out.2; omega
      have p6 := op_cat 9 (E1) (⟨#[46, 49]⟩) (by have := TB.out.2; omega)
      obtain ⟨E6, h6⟩ : ∃ X : ByteArray, (E1) ++ (⟨#[46, 49]⟩) = X := ⟨_, rfl⟩
      rw [h6] at p6
      have y6 : E6.size ≤ 100 := by rw [← h6, ByteArray.size_append]; have := TB.out.2; omega
      have p7 := op_cat 9 (D1) (⟨#[101, 49]⟩) (by have := TB.out.2; omega)
      obtain ⟨E7, h7⟩ : ∃ X : ByteArray, (D1) ++ (⟨#[101, 49]⟩) = X := ⟨_, rfl⟩
      rw [h7] at p7
      have y7 : E7.size ≤ 100 := by rw [← h7, ByteArray.size_append]; have := TB.out.2; omega
      have p8 := op_cat 9 (⟨#[43]⟩) (D1) (by have := TB.out.2; omega)
      obtain ⟨E8, h8⟩ : ∃ X : ByteArray, (⟨#[43]⟩) ++ (D1) = X := ⟨_, rfl⟩
      rw [h8] at p8
      have y8 : E8.size ≤ 100 := by rw [← h8, ByteArray.size_append]; have := TB.out.2; omega
      have p9 := op_cat 9 (⟨#[32]⟩) (D1) (by have := TB.out.2; omega)
      obtain ⟨E9, h9⟩ : ∃ X : ByteArray, (⟨#[32]⟩) ++ (D1) = X := ⟨_, rfl⟩
      rw [h9] at p9
      have y9 : E9.size ≤ 100 := by rw [← h9, ByteArray.size_append]; have := TB.out.2; omega
      obtain ⟨S, hS, hSl⟩ := form_at D1 T E1 E2 E3 E4 E5 E6 E7 E8 E9 h3 h1 h2 h4 h5 h6 h7 h8 h9 i ib
      have CN := hide (fun (u : World) => cell_fresh u _ 9 i _ hS)
      have Ssz : S.size ≤ 1000 := by
        rw [Lib.size_eq, hSl, l1]
        exact Nat.le_trans (form_size _ _ i (by omega) (by rw [← Lib.size_eq]; exact TB.out.2)) (by decide)
      have PA := fun W => dparse_all S W Ssz
      rw [hSl, l1] at PA
      have HT := hide ht
      have i0 : (0 : Int) ≤ (i : Int) := by omega
      have i1 : (i : Int) < 11 := by omega
      clear hS hSl Ssz h1 h2 h3 h4 h5 h6 h7 h8 h9 y1 y2 y3 y4 y5 y6 y7 y8 y9 sb1 sb2 sb3 sb4 sb5 sb6 sb7 hD1 l1 z1 dl ht hlt hj
      by_cases hi2 : 2 ≤ i
      · have PN := hide (fun W => (PA W).1 (form_none N _ i hi2))
        have gi := gtrI_t 3 (show (1 : Int) < (i : Int) by omega)
        have e2 : binOp .eql 27 (.int .i64 2) (.int .i64 2) = pure (.bool true) := rfl
        clear PA hi2 hd hdig NB TB nl SI
        go_wp2_with (first
            | (go_at_call 39; (with_reducible refine (OI.out _).mono ?_); rintro e v1 ⟨P1, p1, rfl, u1, hb⟩; have b1 := hb; have U1 := hide u1; clear u1 hb)
            | (go_at_call 38; (with_reducible refine (TI.out P1 p1 _ U1.out).mono ?_); rintro e v2 ⟨rfl, hb⟩; have b2 := bl_trans b1 hb; have CV := CN.out v2; clear hb)
            | (go_at_call 28; (with_reducible refine (PN.out _).mono ?_); rintro e v3 ⟨rfl, hb⟩; have b3 := bl_trans (bl_al b2 _) hb; have Z := hide (Q3.new (.bool false) (.slice none 0 0) (.slice none 0 0) v3); obtain ⟨x1, x2, x3, x4, x5, x6⟩ := Z.out; clear hb)
            | (go_at_call 27; (with_reducible refine (AW.out _ (bl_al b3 _)).mono ?_); rintro e v4 ⟨rfl, hb⟩; have b4 := bl_trans (bl_al b3 _) hb; clear hb))
        go_ret
        exact ⟨rfl, b4⟩
      · have gi := gtrI_f 3 (show (i : Int) ≤ 1 by omega)
        have e0 : binOp .eql 27 (.int .i64 0) (.int .i64 0) = pure (.bool true) := rfl
        obtain ⟨q, hq, fq, hs, hfl, h0i⟩ : ∃ q : Rat, decSp (formL (Lib.decDigits N) T.data.toList i) = some q ∧ fitq q ∧ qs q = false ∧ qn q / qd q = N ∧ (i = 0 → qmk false N 1 = q) := by
          have ex : ∀ m : Nat, i = m → m ≤ 1 → _ := fun m _ _ => trivial
          clear ex
          rcases (show i = 0 ∨ i = 1 by omega) with rfl | rfl
          · refine ⟨_, form_zero N, ?_, ?_, ?_, fun _ => rfl⟩
            · exact ⟨ln_le (by rw [qn_mk false _ (by decide)]; exact Nat.lt_of_le_of_lt (Nat.div_le_self _ _) (lt_of_ln nl)), Nat.le_trans (ln_le (k := 1) (by rw [qd_mk false _ (by decide), Nat.pow_one, LB_eq]; exact Nat.lt_of_le_of_lt (Nat.div_le_self _ _) (by decide))) (by decide)⟩
            · rw [qs_mk false _ (by decide), Bool.false_and]
            · rw [qn_mk false _ (by decide), qd_mk false _ (by decide), Nat.gcd_one_right, Nat.div_one, Nat.div_one]
          · have hl := form_floor N hd _ rfl
            have hda : (Lib.decDigits N ++ T.data.toList).all isD = true := by rw [List.all_append, hd, Bool.and_true]; exact digitsB_all (textp N).1
            have hT := TB.out.2
            rw [Lib.size_eq] at hT
            have dl := dec_len_le (r := N) (k := 19) (by have := NB.out; omega)
            exact ⟨_, form_one N hdig, dec_fit _ (by rw [List.length_append]; omega) hda (by omega), hl.1, hl.2, fun e => absurd e (by decide)⟩
        have PQ := hide (fun W => (PA W).2 q hq)
        have FL := hide (fun X Y e g W s1 s2 => rfloor_n q X Y e g W s1 s2 fq hs N hfl)
        have SM := hide (fun X Y Z U e f g h W s1 s2 s3 s4 => same_q q q X Y Z U e f g h W s1 s2 s3 s4 fq fq true (decide_eq_true rfl))
        have O1 : Hid (i = 0 → ∀ W, Calls Tryz.prog 35 #[.int .i64 (N : Int), .int .i64 1] W (RQ W q)) := fun e W => rof_q (N : Int) 1 q W (by omega) (by have := NB.out; omega) (by decide) (by decide) (by decide) (h0i e)
        clear PA hq hd hdig TB nl fq hs hfl h0i NB
        go_wp2_with (first
            | (go_at_call 39; (with_reducible refine (OI.out _).mono ?_); rintro e v1 ⟨P1, p1, rfl, u1, hb⟩; have b1 := hb; have U1 := hide u1; clear u1 hb)
            | (go_at_call 38; (with_reducible refine (TI.out P1 p1 _ U1.out).mono ?_); rintro e v2 ⟨rfl, hb⟩; have b2 := bl_trans b1 hb; have CV := CN.out v2; clear hb)
            | (go_at_call 28; (with_reducible refine (PQ.out _).mono ?_); rintro e v3 ⟨A3, c3, B3, d3, rfl, s3, t3, hb⟩; have b3 := bl_trans (bl_al b2 _) hb; have Z := hide (Q3.new (.bool (qs q)) (.slice A3 (ln (qn q)) c3) (.slice B3 (ln (qd q)) d3) v3); obtain ⟨x1, x2, x3, x4, x5, x6⟩ := Z.out; clear hb)
            | (go_at_call 40; (with_reducible refine (FL.out A3 B3 c3 d3 _ (s3.alloc _) (t3.alloc _)).mono ?_); rintro e v4 ⟨A4, c4, rfl, s4, hb⟩; have b4 := bl_trans (bl_al b3 _) hb; have Y3 := hide (Z.out.next hb); have s3 := kp' hb (s3.alloc _); have t3 := kp' hb (t3.alloc _); clear hb x1 x2 x3 x4 x5 x6 Z))
        have kz : Hid (K6 w [(A3, digs (qn q)), (B3, digs (qd q)), (A4, digs N)] (v4.alloc (.cells #[.bool false, .slice A4 (ln N) c4] 50))) := hide (K6.cons (K6.cons (K6.cons (K6.nil (bl_al b4 _)) (s4.alloc _)) (t3.alloc _)) (s3.alloc _))
        have kd := hide kz.out.drew
        have Y3 := hide (Y3.out.al (.cells #[.bool false, .slice A4 (ln N) c4] 50))
        have Z4 := hide (Q2.new (.bool false) (.slice A4 (ln N) c4) v4)
        clear b4 s3 t3 s4
        rcases (show i = 0 ∨ i = 1 by omega) with rfl | rfl
        · have O0 := hide (O1.out rfl)
          go_region_held3 (fun W => W.cell? ⟨v3.heap.size, 0, none⟩ = some (.bool (qs q)) ∧ W.cell? ⟨v3.heap.size, 1, none⟩ = some (.slice A3 (ln (qn q)) c3) ∧ W.cell? ⟨v3.heap.size, 2, none⟩ = some (.slice B3 (ln (qd q)) d3) ∧ W.cell? ⟨v4.heap.size, 0, none⟩ = some (.bool false) ∧ W.cell? ⟨v4.heap.size, 1, none⟩ = some (.slice A4 (ln N) c4) ∧ K6 w [(A3, digs (qn q)), (B3, digs (qd q)), (A4, digs N)] W)
            (first | exact ⟨Y3.out.1, Y3.out.2.1, Y3.out.2.2.1, Z4.out.1, Z4.out.2.1, kd.out⟩ | with_reducible exact S5k_next hb (by assumption) | with_reducible assumption)
            (first
              | (go_at_call 39; (with_reducible refine (OI.out _).mono ?_); rintro e u1 ⟨P1, p1, rfl, y1, hb⟩)
              | (go_at_call 41; (with_reducible refine (SI.out A4 P1 c4 p1 _ (K6.sl (k5k (by assumption)) nem3) y1).mono ?_); rintro e u2 ⟨rfl, hb⟩)
              | (go_at_call 35; (with_reducible refine (O0.out _).mono ?_); rintro e u3 ⟨P3, p3, R3, r3, rfl, y3, y4, hb⟩)
              | (go_at_call 32; (with_reducible refine (SM.out A3 B3 P3 R3 c3 d3 p3 r3 _ (K6.sl (k5k (by assumption)) nem1) (K6.sl (k5k (by assumption)) nem2) y3 y4).mono ?_); rintro e u4 ⟨rfl, hb⟩)
              | (go_at_call 27; (with_reducible refine (AW.out _ (K6.b (k5k (by assumption)))).mono ?_); rintro e u5 ⟨rfl, hb⟩))
          all_goals
            go_wp2
            go_ret
            exact ⟨rfl, K6.b (k5k (by assumption))⟩
        · clear O1
          refine wp_region_held_drew (S := (fun W => W.cell? ⟨v3.heap.size, 0, none⟩ = some (.bool (qs q)) ∧ W.cell? ⟨v3.heap.size, 1, none⟩ = some (.slice A3 (ln (qn q)) c3) ∧ W.cell? ⟨v3.heap.size, 2, none⟩ = some (.slice B3 (ln (qd q)) d3) ∧ W.cell? ⟨v4.heap.size, 0, none⟩ = some (.bool false) ∧ W.cell? ⟨v4.heap.size, 1, none⟩ = some (.slice A4 (ln N) c4) ∧ K6 w [(A3, digs (qn q)), (B3, digs (qd q)), (A4, digs N)] W)) (by kernel_rfl) ?_ (fun hHeld => ?_)
          · (try dsimp only)
            exact ⟨Y3.out.1, Y3.out.2.1, Y3.out.2.2.1, Z4.out.1, Z4.out.2.1, kd.out⟩
          refine wpAnyH_take (i := 0) (v := ?vv0) (by (simp only [List.getElem?_toArray, List.getElem?_cons_zero, List.getElem?_cons_succ]) <;> rfl) (by kernel_rfl) (by kernel_rfl) (by kernel_rfl) ?hq0 (Or.inl ⟨by rfl, ?hy0⟩) (by assumption) ?_
          case hq0 => exact fun _ _ _ h => h
          case hy0 => ((intro w hSw; (try dsimp only at hSw); go_simp) <;> (with_reducible rfl))
          (try simp only [Act.put, List.setIfInBounds_toArray, List.set_cons_zero, List.set_cons_succ])
          refine wpAnyH_take (i := 1) (v := ?vv1) (by (simp only [List.getElem?_toArray, List.getElem?_cons_zero, List.getElem?_cons_succ]) <;> rfl) (by kernel_rfl) (by kernel_rfl) (by kernel_rfl) ?hq1 (Or.inl ⟨by rfl, ?hy1⟩) (by assumption) ?_
          case hq1 => exact fun _ _ _ h => h
          case hy1 => ((intro w hSw; (try dsimp only at hSw); go_simp) <;> (with_reducible rfl))
          (try simp only [Act.put, List.setIfInBounds_toArray, List.set_cons_zero, List.set_cons_succ])
          refine wpAnyH_take (i := 2) (v := ?vv2) (by (simp only [List.getElem?_toArray, List.getElem?_cons_zero, List.getElem?_cons_succ]) <;> rfl) (by kernel_rfl) (by kernel_rfl) (by kernel_rfl) ?hq2 (Or.inl ⟨by rfl, ?hy2⟩) (by assumption) ?_
          case hq2 => exact fun _ _ _ h => h
          case hy2 => ((intro w hSw; (try dsimp only at hSw); go_simp) <;> (with_reducible rfl))
          (try simp only [Act.put, List.setIfInBounds_toArray, List.set_cons_zero, List.set_cons_succ])
          refine wpAnyH_take (i := 3) (v := ?vv3) (by (simp only [List.getElem?_toArray, List.getElem?_cons_zero, List.getElem?_cons_succ]) <;> rfl) (by kernel_rfl) (by kernel_rfl) (by kernel_rfl) ?hq3 (Or.inl ⟨by rfl, ?hy3⟩) (by assumption) ?_
          case hq3 => exact fun _ _ _ h => h
          case hy3 => ((intro w hSw; (try dsimp only at hSw); go_simp) <;> (with_reducible rfl))
          (try simp only [Act.put, List.setIfInBounds_toArray, List.set_cons_zero, List.set_cons_succ])
          refine wpAnyH_take (i := 4) (v := ?vv4) (by (simp only [List.getElem?_toArray, List.getElem?_cons_zero, List.getElem?_cons_succ]) <;> rfl) (by kernel_rfl) (by kernel_rfl) (by kernel_rfl) ?hq4 (Or.inl ⟨by rfl, ?hy4⟩) (by assumption) ?_
          case hq4 => exact fun _ _ _ h => h
          case hy4 => ((intro w hSw; (try dsimp only at hSw); go_simp) <;> (with_reducible rfl))
          (try simp only [Act.put, List.setIfInBounds_toArray, List.set_cons_zero, List.set_cons_succ])
          refine wpAnyH_ready (rs := [5]) (by kernel_rfl) (by simp) ?_
          refine AllReadyH.cons (by (simp only [List.getElem?_toArray, List.getElem?_cons_zero, List.getElem?_cons_succ]) <;> rfl) (fun K hK => ?_) AllReadyH.nil
          go_simp
          (go_at_call 39; (with_reducible refine (OI.out _).mono ?_); rintro e u1 ⟨P1, p1, rfl, y1, hb⟩)
          (try go_wp2_with fail)
          refine hK.out _ _ ?_ (fun hHeld => ?_)
          · (try dsimp only)
            (first | with_reducible exact S5k_next hb (by assumption) | with_reducible assumption)
          clear hK K
          (try simp only [Act.put, List.setIfInBounds_toArray, List.set_cons_zero, List.set_cons_succ])
          refine wpAnyH_ready (rs := [6]) (by kernel_rfl) (by simp) ?_
          refine AllReadyH.cons (by (simp only [List.getElem?_toArray, List.getElem?_cons_zero, List.getElem?_cons_succ]) <;> rfl) (fun K hK => ?_) AllReadyH.nil
          go_simp
          (go_at_call 41; (with_reducible refine (SI.out A4 P1 c4 p1 _ (K6.sl (k5k (by assumption)) nem3) y1).mono ?_); rintro e u2 ⟨rfl, hb⟩)
          (try go_wp2_with fail)
          refine hK.out _ _ ?_ (fun hHeld => ?_)
          · (try dsimp only)
            (first | with_reducible exact S5k_next hb (by assumption) | with_reducible assumption)
          clear hK K
          (try simp only [Act.put, List.setIfInBounds_toArray, List.set_cons_zero, List.set_cons_succ])
          refine wpAnyH_take (i := 7) (v := ?vv7) (by (simp only [List.getElem?_toArray, List.getElem?_cons_zero, List.getElem?_cons_succ]) <;> rfl) (by kernel_rfl) (by kernel_rfl) (by kernel_rfl) ?hq7 (Or.inl ⟨by rfl, ?hy7⟩) (by assumption) ?_
          case hq7 => exact fun _ _ _ h => h
          case hy7 => ((intro w hSw; (try dsimp only at hSw); go_simp) <;> (with_reducible rfl))
          (try simp only [Act.put, List.setIfInBounds_toArray, List.set_cons_zero, List.set_cons_succ])
          refine wpAnyH_take (i := 8) (v := ?vv8) (by (simp only [List.getElem?_toArray, List.getElem?_cons_zero, List.getElem?_cons_succ]) <;> rfl) (by kernel_rfl) (by kernel_rfl) (by kernel_rfl) ?hq8 (Or.inl ⟨by rfl, ?hy8⟩) (by assumption) ?_
          case hq8 => exact fun _ _ _ h => h
          case hy8 => ((intro w hSw; (try dsimp only at hSw); go_simp) <;> (with_reducible rfl))
          (try simp only [Act.put, List.setIfInBounds_toArray, List.set_cons_zero, List.set_cons_succ])
          refine wpAnyH_take (i := 9) (v := ?vv9) (by (simp only [List.getElem?_toArray, List.getElem?_cons_zero, List.getElem?_cons_succ]) <;> rfl) (by kernel_rfl) (by kernel_rfl) (by kernel_rfl) ?hq9 (Or.inl ⟨by rfl, ?hy9⟩) (by assumption) ?_
          case hq9 => exact fun _ _ _ h => h
          case hy9 => ((intro w hSw; (try dsimp only at hSw); go_simp) <;> (with_reducible rfl))
          (try simp only [Act.put, List.setIfInBounds_toArray, List.set_cons_zero, List.set_cons_succ])
          refine wpAnyH_take (i := 10) (v := ?vv10) (by (simp only [List.getElem?_toArray, List.getElem?_cons_zero, List.getElem?_cons_succ]) <;> rfl) (by kernel_rfl) (by kernel_rfl) (by kernel_rfl) ?hq10 (Or.inl ⟨by rfl, ?hy10⟩) (by assumption) ?_
          case hq10 => exact fun _ _ _ h => h
          case hy10 => ((intro w hSw; (try dsimp only at hSw); go_simp) <;> (with_reducible rfl))
          (try simp only [Act.put, List.setIfInBounds_toArray, List.set_cons_zero, List.set_cons_succ])
          refine wpAnyH_take (i := 11) (v := ?vv11) (by (simp only [List.getElem?_toArray, List.getElem?_cons_zero, List.getElem?_cons_succ]) <;> rfl) (by kernel_rfl) (by kernel_rfl) (by kernel_rfl) ?hq11 (Or.inl ⟨by rfl, ?hy11⟩) (by assumption) ?_
          case hq11 => exact fun _ _ _ h => h
          case hy11 => ((intro w hSw; (try dsimp only at hSw); go_simp) <;> (with_reducible rfl))
          (try simp only [Act.put, List.setIfInBounds_toArray, List.set_cons_zero, List.set_cons_succ])
          refine wpAnyH_take (i := 12) (v := undef) (by (simp only [List.getElem?_toArray, List.getElem?_cons_zero, List.getElem?_cons_succ]) <;> rfl) (by kernel_rfl) (by kernel_rfl) (by kernel_rfl) ?hq12 (Or.inr ⟨by rfl, rfl⟩) (by assumption) ?_
          case hq12 => exact fun _ _ _ h => h
          (try simp only [Act.put, List.setIfInBounds_toArray, List.set_cons_zero, List.set_cons_succ])
          refine wpAnyH_take (i := 13) (v := undef) (by (simp only [List.getElem?_toArray, List.getElem?_cons_zero, List.getElem?_cons_succ]) <;> rfl) (by kernel_rfl) (by kernel_rfl) (by kernel_rfl) ?hq13 (Or.inr ⟨by rfl, rfl⟩) (by assumption) ?_
          case hq13 => exact fun _ _ _ h => h
          (try simp only [Act.put, List.setIfInBounds_toArray, List.set_cons_zero, List.set_cons_succ])
          refine wpAnyH_take (i := 14) (v := undef) (by (simp only [List.getElem?_toArray, List.getElem?_cons_zero, List.getElem?_cons_succ]) <;> rfl) (by kernel_rfl) (by kernel_rfl) (by kernel_rfl) ?hq14 (Or.inr ⟨by rfl, rfl⟩) (by assumption) ?_
          case hq14 => exact fun _ _ _ h => h
          (try simp only [Act.put, List.setIfInBounds_toArray, List.set_cons_zero, List.set_cons_succ])
          refine wpAnyH_take (i := 15) (v := undef) (by (simp only [List.getElem?_toArray, List.getElem?_cons_zero, List.getElem?_cons_succ]) <;> rfl) (by kernel_rfl) (by kernel_rfl) (by kernel_rfl) ?hq15 (Or.inr ⟨by rfl, rfl⟩) (by assumption) ?_
          case hq15 => exact fun _ _ _ h => h
          (try simp only [Act.put, List.setIfInBounds_toArray, List.set_cons_zero, List.set_cons_succ])
          refine wpAnyH_take (i := 16) (v := ?vv16) (by (simp only [List.getElem?_toArray, List.getElem?_cons_zero, List.getElem?_cons_succ]) <;> rfl) (by kernel_rfl) (by kernel_rfl) (by kernel_rfl) ?hq16 (Or.inl ⟨by rfl, ?hy16⟩) (by assumption) ?_
          case hq16 => exact fun _ _ _ h => h
          case hy16 => ((intro w hSw; (try dsimp only at hSw); go_simp) <;> (with_reducible rfl))
          (try simp only [Act.put, List.setIfInBounds_toArray, List.set_cons_zero, List.set_cons_succ])
          refine wpAnyH_take (i := 17) (v := ?vv17) (by (simp only [List.getElem?_toArray, List.getElem?_cons_zero, List.getElem?_cons_succ]) <;> rfl) (by kernel_rfl) (by kernel_rfl) (by kernel_rfl) ?hq17 (Or.inl ⟨by rfl, ?hy17⟩) (by assumption) ?_
          case hq17 => exact fun _ _ _ h => h
          case hy17 => ((intro w hSw; (try dsimp only at hSw); go_simp) <;> (with_reducible rfl))
          (try simp only [Act.put, List.setIfInBounds_toArray, List.set_cons_zero, List.set_cons_succ])
          refine wpAnyH_take (i := 18) (v := ?vv18) (by (simp only [List.getElem?_toArray, List.getElem?_cons_zero, List.getElem?_cons_succ]) <;> rfl) (by kernel_rfl) (by kernel_rfl) (by kernel_rfl) ?hq18 (Or.inl ⟨by rfl, ?hy18⟩) (by assumption) ?_
          case hq18 => exact fun _ _ _ h => h
          case hy18 => ((intro w hSw; (try dsimp only at hSw); go_simp) <;> (with_reducible rfl))
          (try simp only [Act.put, List.setIfInBounds_toArray, List.set_cons_zero, List.set_cons_succ])
          refine wpAnyH_ready (rs := [19]) (by kernel_rfl) (by simp) ?_
          refine AllReadyH.cons (by (simp only [List.getElem?_toArray, List.getElem?_cons_zero, List.getElem?_cons_succ]) <;> rfl) (fun K hK => ?_) AllReadyH.nil
          go_simp
          (go_at_call 27; (with_reducible refine (AW.out _ (K6.b (k5k (by assumption)))).mono ?_); rintro e u5 ⟨rfl, hb⟩)
          (try go_wp2_with fail)
          refine hK.out _ _ ?_ (fun hHeld => ?_)
          · (try dsimp only)
            (first | with_reducible exact S5k_next hb (by assumption) | with_reducible assumption)
          clear hK K
          (try simp only [Act.put, List.setIfInBounds_toArray, List.set_cons_zero, List.set_cons_succ])
          refine wpAnyH_take (i := 20) (v := ?vv20) (by (simp only [List.getElem?_toArray, List.getElem?_cons_zero, List.getElem?_cons_succ]) <;> rfl) (by kernel_rfl) (by kernel_rfl) (by kernel_rfl) ?hq20 (Or.inl ⟨by rfl, ?hy20⟩) (by assumption) ?_
          case hq20 => exact fun _ _ _ h => h
          case hy20 => ((intro w hSw; (try dsimp only at hSw); go_simp) <;> (with_reducible rfl))
          (try simp only [Act.put, List.setIfInBounds_toArray, List.set_cons_zero, List.set_cons_succ])
          refine wpAnyH_take (i := 21) (v := ?vv21) (by (simp only [List.getElem?_toArray, List.getElem?_cons_zero, List.getElem?_cons_succ]) <;> rfl) (by kernel_rfl) (by kernel_rfl) (by kernel_rfl) ?hq21 (Or.inl ⟨by rfl, ?hy21⟩) (by assumption) ?_
          case hq21 => exact fun _ _ _ h => h
          case hy21 => ((intro w hSw; (try dsimp only at hSw); go_simp) <;> (with_reducible rfl))
          (try simp only [Act.put, List.setIfInBounds_toArray, List.set_cons_zero, List.set_cons_succ])
          refine wpAnyH_done (by kernel_rfl) ?_ _
          go_wp2
          go_ret
          exact ⟨rfl, K6.b (k5k (by assumption))⟩

set_option maxRecDepth 100000 in
set_option maxHeartbeats 4000000 in
theorem forms_law (n : Int) (T : ByteArray) (k : Int) (w : World) (hn : -9223372036854775808 ≤ n ∧ n ≤ 9223372036854775807) (ht : Pow10 w) :
    Calls Tryz.prog 6 #[.int .i64 n, .string T, .int .i64 k] w fun e w' => e = .returned (.bool true) ∧ Below w.heap.size w w' := by
  have AW := hide (awake4_any w ht)
  by_cases h1 : n < 0
  · have c1 := lssI_t 3 h1
    clear h1 hn ht
    go_enter Tryz.func6, Tryz.ntmps6
    go_wp2_with (go_at_call 27; (with_reducible refine (AW.out).mono ?_); rintro e w' ⟨rfl, hb⟩)
    go_ret
    exact ⟨rfl, hb⟩
  have c1 := lssI_f 3 (show (0 : Int) ≤ n by omega)
  by_cases h2 : T.size < 1
  · have c2 := lssI_t 3 (show (T.size : Int) < 1 by omega)
    clear h1 h2 hn ht
    go_enter Tryz.func6, Tryz.ntmps6
    go_wp2_with (go_at_call 27; (with_reducible refine (AW.out).mono ?_); rintro e w' ⟨rfl, hb⟩)
    go_ret
    exact ⟨rfl, hb⟩
  have c2 := lssI_f 3 (show (1 : Int) ≤ (T.size : Int) by omega)
  by_cases h3 : 30 < T.size
  · have c3 := gtrI_t 3 (show (30 : Int) < (T.size : Int) by omega)
    clear h1 h2 h3 hn ht
    go_enter Tryz.func6, Tryz.ntmps6
    go_wp2_with (go_at_call 27; (with_reducible refine (AW.out).mono ?_); rintro e w' ⟨rfl, hb⟩)
    go_ret
    exact ⟨rfl, hb⟩
  obtain ⟨N, rfl⟩ : ∃ N : Nat, n = (N : Int) := ⟨n.toNat, by omega⟩
  exact forms_in N T k w (by omega) (by omega) (by omega) ht
end Nt

end Go.Proofs.YtboppbidldomhaaGreatDoor
