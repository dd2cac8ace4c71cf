/-
  The law SortsLevels.
-/
import Derived.Test.YtlcgdiciiibeeaaSe
namespace Go.Proofs.Ytlcgdiciiibeeaa
open Go.ChangeShapes Go.RowKit
namespace Nt
set_option maxRecDepth 100000
set_option linter.unusedSimpArgs false
set_option linter.unusedVariables false

theorem add_two (t : TypeId) (n : Nat) (h : n ≤ 1000) : binOp .add t (.int .i64 (n : Int)) (.int .i64 2) = pure (.int .i64 ((n : Int) + 2)) := by
  have e : IntKind.i64.wrap ((n : Int) + 2) = (n : Int) + 2 := by rw [IntWalk.i64_in _ ⟨by omega, by omega⟩]
  rw [← e]; rfl

theorem kc_letter1 (W : World) (o : Obj) (k : Nat) (hk : k < 100) : (convert 59 9 (.slice (some ⟨W.heap.size + 1, 0, none⟩) 1 1)).run Try.prog ((W.alloc o).alloc (.cells #[.int .u8 (97 + (k : Int))] 5)) =
    .ok (.string (nmK k)) ((W.alloc o).alloc (.cells #[.int .u8 (97 + (k : Int))] 5)) := by
  have := kc_letter (W.alloc o) k hk
  rwa [show (W.alloc o).heap.size = W.heap.size + 1 by simp] at this

set_option maxHeartbeats 8000000 in
theorem levels_near (A : Option Addr) (xs : List Int) (c : Nat) (pop : Int) (w : World) (hi : Ir [] w A xs) (hl : xs.length ≤ 8) :
    Calls Try.prog 4 #[.slice A xs.length c, .int .i64 pop] w fun e w' => e = .returned (.bool true) ∧ Below w.heap.size w w' := by
  obtain ⟨B, hB⟩ : ∃ B, B = w.heap.size := ⟨_, rfl⟩
  have c0 : Calls Try.prog 9 #[] w fun e w' => e = .returned (.pointer (some ⟨w.heap.size, 0, none⟩)) ∧ Tw [] B w w' w.heap.size 0 0 [] [] [] ∧ Below w.heap.size w w' :=
    tw_new (X := []) (by omega) (by rw [hB]; exact .refl _ _) (by simp)
  have hrd : ∀ wr, Below B w wr → ∀ j (hj : j < xs.length), ∃ b o, A = some ⟨b, o, none⟩ ∧ wr.cell? ⟨b, o + j, none⟩ = some (.int .i64 xs[j]) := by
    intro wr hb j hj
    rcases hi with h | ⟨b, o, h1, h2, _, h3⟩
    · rw [h] at hj; simp at hj
    · have := hb.cell (p := ⟨b, o + j, none⟩) (by rw [hB]; exact h2)
      rw [h3 j hj] at this
      exact ⟨b, o, h1, by rw [this]; simp [List.getD, List.getElem?_eq_getElem hj]⟩
  have hBs : Hid (B = w.heap.size) := hide hB
  generalize w.heap.size = p at c0 hB ⊢
  replace hB := hide hB; replace c0 := hide c0; replace hrd := hide hrd
  clear hi
  obtain ⟨n, hn⟩ : ∃ n, n = xs.length := ⟨_, rfl⟩
  rw [← hn] at hl ⊢
  replace hn := hide hn
  go_enter Try.func4, Try.ntmps4
  go_wp2_with (go_at_call 9; (with_reducible refine c0.out.mono ?_); rintro e w1 ⟨rfl, t1, -⟩)
  have hst := hide (lev_start t1)
  clear t1
  go_loopw [6, 7, 8] (fun v m i wr => ∃ k : Nat, ∃ ats ds : List Nat, k ≤ n ∧ ats.length = k ∧ ds.length ≤ 4 * k ∧ m = .int .i64 (ds.length : Int) ∧ i = .int .i64 (k : Int) ∧ LevI B p w v ats k ds wr) (fun _ _ i _ => n - (intOf i).toNat)
  case atStart => exact ⟨0, [], [], Nat.zero_le _, rfl, by simp, rfl, rfl, hst.out⟩
  case round =>
    obtain ⟨k, ats, ds, hk, hal, hdl, rfl, rfl, hL⟩ := hrel
    obtain ⟨A1, c1, hv⟩ := hL.2.2.2.form
    subst hv
    clear hst
    by_cases hkn : k < n
    · obtain ⟨A2, c2, w2, hrun, hpush⟩ := lev_push hL hal (by omega)
      have hdl2 : ds.length ≤ 100 := by omega
      obtain ⟨m, hm⟩ : ∃ m, m = ds.length := ⟨_, rfl⟩
      rw [← hm] at hrun hdl2 ⊢
      rw [hal] at hrun ⊢
      replace hm := hide hm
      replace hpush := hide hpush
      replace hdl := hide hdl
      replace hal := hide hal
      clear hL
      go_wp2_with first
        | (at_builtin; refine wpList_append_run _ rfl _ _ _ rfl _ _ _ _ rfl rfl hrun ?_)
        | (go_at_call 14; (with_reducible refine hpush.out.mono ?_); rintro e w3 ⟨rfl, hL3⟩)
      obtain ⟨R, hR1, hR2⟩ : ∃ R : Nat, xs[k]'(by rw [← hn.out]; exact hkn) % 5 = (R : Int) ∧ R < 5 := ⟨(xs[k]'(by rw [← hn.out]; exact hkn) % 5).toNat, by omega, by omega⟩
      have hround := fun W => round_any (xs[k]'(by rw [← hn.out]; exact hkn)) 5 (by omega) (by omega) W
      rw [show ((5 : Nat) : Int) = 5 from rfl, hR1] at hround
      have hrd2 : ∀ wx, Below B w wx → ∃ b o, A = some ⟨b, o, none⟩ ∧ wx.cell? ⟨b, o + k, none⟩ = some (.int .i64 (xs[k]'(by rw [← hn.out]; exact hkn))) := fun wx hb => hrd.out wx hb k (by rw [← hn.out]; exact hkn)
      generalize xs[k]'(by rw [← hn.out]; exact hkn) = x at *
      replace hround := hide hround
      replace hrd2 := hide hrd2
      replace hL3 := hide hL3
      clear hR1 hrun
      go_loopw [7, 9] (fun u j wx => ∃ q : Nat, ∃ ds' : List Nat, q ≤ R ∧ ds'.length ≤ 4 * k + q ∧ u = .int .i64 (ds'.length : Int) ∧ j = .int .i64 (q : Int) ∧ LevI B p w (.slice A2 (k + 1) c2) (ats ++ [ds.length]) (k + 1) ds' wx) (fun _ j _ => R - (intOf j).toNat)
      case atStart => exact ⟨0, ds, Nat.zero_le _, hdl.out, by rw [← hm.out], rfl, hL3.out⟩
      case round =>
        obtain ⟨q, ds', hq, hdl', rfl, rfl, hL4⟩ := hrel
        obtain ⟨b, o, rfl, r0⟩ := hrd2.out _ hL4.2.2.1.below
        have hro := hround.out wr
        by_cases hqR : q < R
        · have hsort := lev_sort hL4 (by omega)
          have hfun : ∀ wy, LevS B p w (.slice A2 (k + 1) c2) (ats ++ [ds.length]) (k + 1) ds' wy → _ := fun wy hy => lev_fun hy (by omega) (by simp; have := hal.out; omega)
          have hkc := kc_letter wr ds'.length (by omega)
          have hcs := cat_S 9 ds'.length
          have hcf := cat_F 9 ds'.length
          have hkc2 : ∀ wy, _ := fun wy => kc_letter wy ds'.length (by omega)
          have hdn : ds'.length ≤ 31 := by omega
          have hat := add_two 3 ds'.length (by omega)
          obtain ⟨n', hn'⟩ : ∃ n', n' = ds'.length := ⟨_, rfl⟩
          rw [← hn'] at hsort hfun hkc hcs hcf hkc2 hdn hat ⊢
          replace hn' := hide hn'
          replace hsort := hide hsort
          replace hfun := hide hfun
          replace hkc2 := hide hkc2
          replace hdl' := hide hdl'
          clear hL4
          go_wp2_with first
            | (go_at_call 31; (with_reducible refine hro.mono ?_); rintro e w5 ⟨rfl, rfl⟩)
            | (go_at_call 10; (with_reducible refine hsort.out.mono ?_); rintro e w6 ⟨rfl, hS6⟩; have hkd := hkc2.out w6; have hf6 := hide (hfun.out w6 hS6); clear hS6)
            | (go_at_call 12; (with_reducible refine hf6.out.mono ?_); rintro e w7 ⟨rfl, hL7⟩)
          go_roundw
          all_goals (try simp only [Array.getD_eq_getD_getElem?, List.getElem?_toArray, List.getElem?_cons_succ, List.getElem?_cons_zero, Option.getD_some])
          case rel => exact ⟨q + 1, ds' ++ [k + 1], by omega, by have := hdl'.out; simp; omega, by rw [List.length_append, ← hn'.out]; go_num, by go_num, hL7⟩
          case measure => simp [intOf]; omega
        · have hqd : decide (q < R) = false := decide_eq_false hqR
          have hL5 := hide hL4
          have hdl5 := hide hdl'
          obtain ⟨n', hn'⟩ : ∃ n', n' = ds'.length := ⟨_, rfl⟩
          rw [← hn']
          replace hn' := hide hn'
          clear hL4 hdl'
          go_wp2_with (go_at_call 31; (with_reducible refine hro.mono ?_); rintro e w5 ⟨rfl, rfl⟩)
          go_roundw
          all_goals (try simp only [Array.getD_eq_getD_getElem?, List.getElem?_toArray, List.getElem?_cons_succ, List.getElem?_cons_zero, Option.getD_some])
          case rel => exact ⟨k + 1, ats ++ [ds.length], ds', by omega, by rw [List.length_append, hal.out]; rfl, by have := hdl5.out; omega, by rw [← hn'.out], by go_num, hL5.out⟩
          case measure => simp [intOf]; omega
    · have hkd : decide (k < n) = false := decide_eq_false hkn
      obtain rfl : k = n := by omega
      obtain ⟨kk, hk1, hk2⟩ : ∃ kk : Nat, pop % ((k : Int) + 1) = (kk : Int) ∧ kk ≤ k := ⟨(pop % ((k : Int) + 1)).toNat, by have := Int.emod_nonneg pop (b := (k : Int) + 1) (by omega); omega, by have := Int.emod_lt_of_pos pop (b := (k : Int) + 1) (by omega); have := Int.emod_nonneg pop (b := (k : Int) + 1) (by omega); omega⟩
      obtain ⟨l, hlk⟩ : ∃ l, l + kk = k := ⟨k - kk, by omega⟩
      have hround := round_any pop (k + 1) (by omega) (by omega) wr
      rw [show ((k + 1 : Nat) : Int) = (k : Int) + 1 by omega, hk1] at hround
      have hpop := lev_pop hL (by omega) (by omega) kk l hlk
      have hsub := sub_i 3 k kk l hlk (by omega)
      have hds : ds.length ≤ 32 := by omega
      have hB9 : B ≤ wr.heap.size := hL.2.2.1.base
      have hkm := kN_le l ds
      have hk0 : kk = 0 → kN l ds = ds.length := fun h => by
        have : l = k := by omega
        rw [this]; exact kN_all hL.1
      have hget : ∀ w', Iw B w' (.slice A1 ats.length c1) ats → 0 < kk → ∃ g, A1 = some ⟨g, 0, none⟩ ∧ w'.cell? ⟨g, l, none⟩ = some (.int .i64 ((kN l ds : Nat) : Int)) := fun w' hw hp => by
        have hlt : l < ats.length := by omega
        obtain ⟨g, h1, h2⟩ := hw.get l hlt
        exact ⟨g, h1, by rw [h2, hL.2.1 l hlt]⟩
      obtain ⟨M, hM⟩ : ∃ M, M = kN l ds := ⟨_, rfl⟩
      rw [← hM] at hpop hkm hk0 hget
      obtain ⟨n', hn'⟩ : ∃ n', n' = ds.length := ⟨_, rfl⟩
      rw [hal] at hpop hget ⊢
      rw [← hn'] at hds hkm hk0 ⊢
      have hl8 : l ≤ 8 := by omega
      replace hM := hide hM; replace hn' := hide hn'; replace hpop := hide hpop; replace hk0 := hide hk0; replace hget := hide hget; replace hdl := hide hdl; replace hB9 := hide hB9
      clear hL hk1 hal
      have ha := hide (fun w => awake6 w)
      by_cases hkk : kk = 0
      · have hMn := hk0.out hkk
        subst hkk
        rw [show ((0 : Nat) : Int) = 0 from rfl] at hround hpop hsub
        obtain rfl : l = k := by omega
        go_wp2_with first
          | (go_at_call 31; (with_reducible refine hround.mono ?_); rintro e w5 ⟨rfl, rfl⟩)
          | (go_at_call 16; (with_reducible refine hpop.out.mono ?_); rintro e w6 ⟨rfl, hF, -⟩; have hlv := hide (lev_levels hF); replace hF := hide hF)
          | (go_at_call 27; (with_reducible refine hlv.out.mono ?_); rintro e w7 ⟨rfl, rfl⟩)
        rw [← hMn]
        replace hMn := hide hMn
        go_loopw [15] (fun j wx => ∃ q : Nat, q ≤ n' ∧ j = .int .i64 (q : Int) ∧ LevF B p w (2 * ds.length) l M ds wx) (fun j _ => n' - (intOf j).toNat)
        case atStart => exact ⟨0, Nat.zero_le _, rfl, hF.out⟩
        case round =>
          obtain ⟨q, hq, rfl, hF2⟩ := hrel
          by_cases hqn : q < n'
          · have hfind := lev_find (hF2.next (bel_al wr (.cells #[.int .u8 (97 + (q : Int))] 5))) (by have := hn'.out; omega) (by have := hn'.out; omega) q (by omega)
            have hfs : ∀ wy, LevF B p w (2 * ds.length) l M ds wy → _ := fun wy hy => lev_fsort hy (by have := hn'.out; omega) (by have := hn'.out; omega) q (by omega)
            have hkc := kc_letter wr q (by omega)
            have hcs := cat_S 9 q
            have hcf := cat_F 9 q
            have hkc2 : ∀ wy o, _ := fun wy o => kc_letter1 wy o q (by omega)
            have hat := add_two 3 q (by omega)
            have hnx : ∀ wy o, LevF B p w (2 * ds.length) l M ds wy → LevF B p w (2 * ds.length) l M ds (wy.alloc o) := fun wy o h => h.next (bel_al _ _)
            clear hF2
            by_cases hqM : q < M
            · rw [decide_eq_true hqM] at hfind
              simp only [decide_eq_true hqM, if_pos hqM] at hfs
              replace hfind := hide hfind; replace hfs := hide hfs; replace hkc2 := hide hkc2; replace hnx := hide hnx
              go_wp2_with first
                | (go_at_call 18; (with_reducible refine hfind.out.mono ?_); rintro e w8 ⟨nm, A8, n8, c8, r8, rfl, hF8⟩; have hke := hkc2.out w8 (.cells #[.string nm, .slice A8 n8 c8, .int .i64 r8] 35); have hF9 := hide (hnx.out _ (.cells #[.int .u8 (97 + (q : Int))] 5) (hnx.out w8 (.cells #[.string nm, .slice A8 n8 c8, .int .i64 r8] 35) hF8)); have hf9 := hide (hfs.out _ hF9.out); clear hF8)
                | (go_at_call 21; (with_reducible refine hf9.out.mono ?_); rintro e w9 ⟨rfl, rfl⟩)
              go_roundw
              all_goals (try simp only [Array.getD_eq_getD_getElem?, List.getElem?_toArray, List.getElem?_cons_succ, List.getElem?_cons_zero, Option.getD_some])
              case rel => exact ⟨q + 1, by omega, by go_num, hF9.out⟩
              case measure => simp [intOf]; omega
            · exact absurd (show q < M by have := hMn.out; omega) hqM
          · have hqd : decide (q < n') = false := decide_eq_false hqn
            have hnew := lev_new hF2 (by have := hn'.out; omega) (by have := hn'.out; omega)
            have hat := add_two 3 M (by omega)
            replace hnew := hide hnew
            clear hF2
            go_wp2_with first
              | (go_at_call 10; (with_reducible refine hnew.out.mono ?_); rintro e w8 ⟨rfl, hf8⟩; replace hf8 := hide hf8)
              | (go_at_call 25; (with_reducible refine hf8.out.mono ?_); rintro e w9 ⟨g9, c9, rfl, hb9, hB10, hp9⟩; replace hb9 := hide hb9; replace hp9 := hide hp9; replace hB10 := hide hB10)
              | (go_at_call 16; (with_reducible refine hp9.out.mono ?_); rintro e w10 ⟨rfl, rfl⟩)
              | (go_at_call 8; (with_reducible refine (ha.out _).mono ?_); rintro e w11 ⟨rfl, hb11⟩)
            go_ret
            have hB1 := hB.out
            exact ⟨rfl, by rw [← hB1]; exact hb9.out.trans (hb11.mono hB10.out)⟩
      · have hkp : 0 < kk := by omega
        have hkz : ((kk : Int) == 0) = false := by simp; omega
        have hlk3 : l < k := by omega
        go_wp2_with first
          | (go_at_call 31; (with_reducible refine hround.mono ?_); rintro e w5 ⟨rfl, rfl⟩)
          | (go_at_call 16; (with_reducible refine hpop.out.mono ?_); rintro e w6 ⟨rfl, hF, hI⟩; have hlv := hide (lev_levels hF); replace hF := hide hF; obtain ⟨g, rfl, y0⟩ := hget.out _ hI hkp; clear hI)
          | (go_at_call 27; (with_reducible refine hlv.out.mono ?_); rintro e w7 ⟨rfl, rfl⟩)
        go_loopw [15] (fun j wx => ∃ q : Nat, q ≤ n' ∧ j = .int .i64 (q : Int) ∧ LevF B p w (2 * ds.length) l M ds wx) (fun j _ => n' - (intOf j).toNat)
        case atStart => exact ⟨0, Nat.zero_le _, rfl, hF.out⟩
        case round =>
          obtain ⟨q, hq, rfl, hF2⟩ := hrel
          by_cases hqn : q < n'
          · have hfind := lev_find (hF2.next (bel_al wr (.cells #[.int .u8 (97 + (q : Int))] 5))) (by have := hn'.out; omega) (by have := hn'.out; omega) q (by omega)
            have hfs : ∀ wy, LevF B p w (2 * ds.length) l M ds wy → _ := fun wy hy => lev_fsort hy (by have := hn'.out; omega) (by have := hn'.out; omega) q (by omega)
            have hkc := kc_letter wr q (by omega)
            have hcs := cat_S 9 q
            have hcf := cat_F 9 q
            have hkc2 : ∀ wy o, _ := fun wy o => kc_letter1 wy o q (by omega)
            have hat := add_two 3 q (by omega)
            have hnx : ∀ wy o, LevF B p w (2 * ds.length) l M ds wy → LevF B p w (2 * ds.length) l M ds (wy.alloc o) := fun wy o h => h.next (bel_al _ _)
            clear hF2
            by_cases hqM : q < M
            · rw [decide_eq_true hqM] at hfind
              simp only [decide_eq_true hqM, if_pos hqM] at hfs
              replace hfind := hide hfind; replace hfs := hide hfs; replace hkc2 := hide hkc2; replace hnx := hide hnx
              go_wp2_with first
                | (go_at_call 18; (with_reducible refine hfind.out.mono ?_); rintro e w8 ⟨nm, A8, n8, c8, r8, rfl, hF8⟩; have hke := hkc2.out w8 (.cells #[.string nm, .slice A8 n8 c8, .int .i64 r8] 35); have hF9 := hide (hnx.out _ (.cells #[.int .u8 (97 + (q : Int))] 5) (hnx.out w8 (.cells #[.string nm, .slice A8 n8 c8, .int .i64 r8] 35) hF8)); have hf9 := hide (hfs.out _ hF9.out); clear hF8)
                | (go_at_call 21; (with_reducible refine hf9.out.mono ?_); rintro e w9 ⟨rfl, rfl⟩)
              go_roundw
              all_goals (try simp only [Array.getD_eq_getD_getElem?, List.getElem?_toArray, List.getElem?_cons_succ, List.getElem?_cons_zero, Option.getD_some])
              case rel => exact ⟨q + 1, by omega, by go_num, hF9.out⟩
              case measure => simp [intOf]; omega
            · have hqd : decide (q < M) = false := decide_eq_false hqM
              rw [hqd] at hfind
              simp only [hqd, if_neg hqM] at hfs
              replace hfind := hide hfind; replace hfs := hide hfs; replace hkc2 := hide hkc2; replace hnx := hide hnx
              go_wp2_with first
                | (go_at_call 18; (with_reducible refine hfind.out.mono ?_); rintro e w8 ⟨nm, A8, n8, c8, r8, rfl, hF8⟩; have hke := hkc2.out w8 (.cells #[.string nm, .slice A8 n8 c8, .int .i64 r8] 35); have hF9 := hide (hnx.out _ (.cells #[.int .u8 (97 + (q : Int))] 5) (hnx.out w8 (.cells #[.string nm, .slice A8 n8 c8, .int .i64 r8] 35) hF8)); have hf9 := hide (hfs.out _ hF9.out); clear hF8)
                | (go_at_call 21; (with_reducible refine hf9.out.mono ?_); rintro e w9 ⟨rfl, rfl⟩)
              go_roundw
              all_goals (try simp only [Array.getD_eq_getD_getElem?, List.getElem?_toArray, List.getElem?_cons_succ, List.getElem?_cons_zero, Option.getD_some])
              case rel => exact ⟨q + 1, by omega, by go_num, hF9.out⟩
              case measure => simp [intOf]; omega
          · have hqd : decide (q < n') = false := decide_eq_false hqn
            have hnew := lev_new hF2 (by have := hn'.out; omega) (by have := hn'.out; omega)
            have hat := add_two 3 M (by omega)
            replace hnew := hide hnew
            clear hF2
            go_wp2_with first
              | (go_at_call 10; (with_reducible refine hnew.out.mono ?_); rintro e w8 ⟨rfl, hf8⟩; replace hf8 := hide hf8)
              | (go_at_call 25; (with_reducible refine hf8.out.mono ?_); rintro e w9 ⟨g9, c9, rfl, hb9, hB10, hp9⟩; replace hb9 := hide hb9; replace hp9 := hide hp9; replace hB10 := hide hB10)
              | (go_at_call 16; (with_reducible refine hp9.out.mono ?_); rintro e w10 ⟨rfl, rfl⟩)
              | (go_at_call 8; (with_reducible refine (ha.out _).mono ?_); rintro e w11 ⟨rfl, hb11⟩)
            go_ret
            have hB1 := hB.out
            exact ⟨rfl, by rw [← hB1]; exact hb9.out.trans (hb11.mono hB10.out)⟩

theorem levels_law (A : Option Addr) (xs : List Int) (c : Nat) (pop : Int) (w : World) (hi : Ir [] w A xs) (hl : xs.length ≤ maxLen) :
    Calls Try.prog 4 #[.slice A xs.length c, .int .i64 pop] w fun e w' => e = .returned (.bool true) ∧ Below w.heap.size w w' := by
  by_cases h : xs.length ≤ 8
  · exact levels_near A xs c pop w hi h
  · have ha := awake6 w
    have hl2 : xs.length ≤ 9223372036854775807 := by unfold maxLen at hl; omega
    have h20 : 8 < xs.length := by omega
    clear h hl hi
    generalize xs.length = n at *
    go_enter Try.func4, Try.ntmps4
    go_wp2_with (go_at_call 8; (with_reducible refine ha.mono ?_); rintro e w1 ⟨rfl, hb⟩)
    go_ret
    exact ⟨rfl, hb⟩
end Nt
end Go.Proofs.Ytlcgdiciiibeeaa
