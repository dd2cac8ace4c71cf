/-
  All functions of a table: the walk.
-/
import Derived.Laws.MakeOwn
import Derived.Test.YtlcgdiciiibeeaaTv
namespace Go.Proofs.Ytlcgdiciiibeeaa
open Go.ChangeShapes Go.RowKit Go.Lib Go.Sort
namespace Nt
set_option maxRecDepth 100000
set_option linter.unusedSimpArgs false
set_option linter.unusedVariables false

theorem FE.get : ∀ (ds : List FE) (i r : Nat) (hi : i < ds.length) (_ : r < 3), (ds.flatMap FE.enc)[i * 3 + r]? = some ((ds[i].enc)[r]!)
  | x :: ds, 0, r, _, hr => by
    rcases r with _ | _ | _ | r
    · rfl
    · rfl
    · rfl
    · omega
  | x :: ds, i + 1, r, hi, hr => by
    have := FE.get ds i r (by simpa using hi) hr
    have e0 : (i + 1) * 3 + r = i * 3 + r + 1 + 1 + 1 := by omega
    rw [e0]
    simpa [FE.enc] using this

/-- A list of functions of the call's own. -/
def Made (B : Nat) (w : World) (v : Value) (fs : List Fn) : Prop :=
  ∃ ds : List FE, ds.map FE.f = fs ∧ w.ownsRow B 35 3 v ds.length (ds.flatMap FE.enc) ∧ (∃ g, v.ownBlock = some g) ∧ ∀ x ∈ ds, x.f.ar.length ≤ 64 ∧ ∀ S : List Nat, (∀ b ∈ S, b < B) → Ir (v.ownBlock.toList ++ S) w x.A x.f.ar
theorem Made.next {B : Nat} {w W : World} {v : Value} {fs : List Fn} (h : Made B w v fs) (hb : Below w.heap.size w W) : Made B W v fs := by
  obtain ⟨ds, h1, h2, h3, h4⟩ := h
  exact ⟨ds, h1, Off.row h2 (Off.of_below hb []) (by simp), h3, fun x hx => ⟨(h4 x hx).1, fun S hS => ((h4 x hx).2 S hS).off (Off.of_below hb []) (by simp) (fun b hb => .inl hb)⟩⟩
theorem row_rebase {w : World} {B e size n : Nat} {v : Value} {xs : List Value} (h : w.ownsRow 0 e size v n xs) (hb : ∀ k, v.ownBlock = some k → B ≤ k) : w.ownsRow B e size v n xs := by
  refine ⟨h.1, h.2.imp id ?_⟩
  rintro ⟨g, cap, cur, rfl, _, h4⟩
  exact ⟨g, cap, cur, rfl, hb g rfl, h4⟩
theorem row_zero {w : World} {B e size n : Nat} {v : Value} {xs : List Value} (h : w.ownsRow B e size v n xs) : w.ownsRow 0 e size v n xs := by
  refine ⟨h.1, h.2.imp id ?_⟩
  rintro ⟨g, cap, cur, rfl, _, h4⟩
  exact ⟨g, cap, cur, rfl, Nat.zero_le _, h4⟩
theorem row_base {w : World} {B e size n : Nat} {v : Value} {xs : List Value} (h : w.ownsRow B e size v n xs) {k : Nat} (hk : v.ownBlock = some k) : B ≤ k := by
  rcases h.2 with ⟨rfl, _⟩ | ⟨g, cap, cur, rfl, hg, _⟩
  · cases hk
  · cases hk; exact hg

theorem made_step {B : Nat} {w w1 : World} {v : Value} {fs : List Fn} (nm : ByteArray) (ar : List Int) (rs : Int) (A : Option Addr) (c : Nat) (hM : Made B w v fs) (hB : B ≤ w.heap.size) (hb : Below w.heap.size w w1)
    (hI : ∀ S : List Nat, (∀ b ∈ S, b < w.heap.size) → Ir S w1 A ar) (hl : fs.length ≤ 1000000) (h64 : ar.length ≤ 64) :
    ∃ v' w2, (∀ ty, (Builtin.append_ #[29, 29] ty #[v, .slice (some ⟨w1.heap.size, 0, none⟩) 1 1]).run Try.prog (w1.alloc (.cells #[.string nm, .slice A ar.length c, .int .i64 rs] 35)) = .ok v' w2) ∧ Made B w2 v' (fs ++ [⟨nm, ar, rs⟩]) ∧ Below B w w2 := by
  have hM1 := hM.next hb
  obtain ⟨ds, h1, h2, ⟨g, hg⟩, h4⟩ := hM1
  have hlen : ds.length = fs.length := by rw [← h1]; simp
  have hgl := row_lt h2 hg
  have hgw : g < w.heap.size := by
    obtain ⟨ds0, _, k2, _, _⟩ := hM
    exact row_lt k2 hg
  have hgB := row_base h2 hg
  obtain ⟨v', w2, hr, hrow, hO, hloc⟩ := app_fun w1 v ds.length _ (row_zero h2) nm A ar.length c rs (by omega)
  have hv' : ∃ g', v'.ownBlock = some g' := by
    rcases hrow.2 with ⟨_, h⟩ | ⟨g', cap, cur, rfl, _⟩
    · omega
    · exact ⟨g', rfl⟩
  obtain ⟨g', hg'⟩ := hv'
  have hloc' : g' = g ∨ w1.heap.size ≤ g' := by
    rcases hloc g' hg' with h | h
    · rw [hg] at h; cases h; exact .inl rfl
    · exact .inr h
  have hbs := hb.size
  refine ⟨v', w2, hr, ⟨ds ++ [⟨⟨nm, ar, rs⟩, A, c⟩], by simp [h1], ?_, ⟨g', hg'⟩, ?_⟩, ?_⟩
  · rw [List.length_append, List.flatMap_append]
    refine row_rebase ?_ (fun k hk => ?_)
    · simpa [FE.enc] using hrow
    · rw [hg'] at hk
      cases hk
      rcases hloc' with h | h <;> omega
  · intro x hx
    rw [List.mem_append] at hx
    have hOb : ∀ b ∈ v.ownBlock.toList, b = g := by intro b hb; rw [hg] at hb; simpa using hb
    rcases hx with hx | hx
    · refine ⟨(h4 x hx).1, fun S hS => ((h4 x hx).2 S hS).off hO (fun b hb => .inl (by simp [hg, hOb b hb])) (fun b hb => ?_)⟩
      rw [hg', Option.toList_some, List.mem_append, List.mem_singleton] at hb
      rcases hb with rfl | hb
      · rcases hloc' with h | h
        · exact .inl (by simp [hg, h])
        · exact .inr h
      · exact .inl (by simp [hb])
    · simp only [List.mem_singleton] at hx
      subst hx
      refine ⟨h64, fun S hS => ((hI (g :: S) ?_).off hO (fun b hb => .inl (by simp [hOb b hb])) (fun b hb => ?_))⟩
      · intro b hb
        rcases List.mem_cons.1 hb with rfl | hb
        · exact hgw
        · exact Nat.lt_of_lt_of_le (hS b hb) hB
      · rw [hg', Option.toList_some, List.mem_append, List.mem_singleton] at hb
        rcases hb with rfl | hb
        · rcases hloc' with h | h
          · exact .inl (by simp [h])
          · exact .inr h
        · exact .inl (by simp [hb])
  · exact (hb.mono hB).trans (hO.below (by omega) (by intro b hb; rw [hg] at hb; simp at hb; omega))

/-- Where functions lie in memory. -/
def FunsAt (w : World) (g : Nat) (l : List Fn) : Prop := ∀ i (h : i < l.length), ∃ A c, w.cell? ⟨g, i * 3, none⟩ = some (.string l[i].nm) ∧ w.cell? ⟨g, i * 3 + 1, none⟩ = some (.slice A l[i].ar.length c) ∧ w.cell? ⟨g, i * 3 + 2, none⟩ = some (.int .i64 l[i].rs) ∧ Ir [] w A l[i].ar ∧ l[i].ar.length ≤ 64
theorem FunsAt.next {w w' : World} {g : Nat} {l : List Fn} (h : FunsAt w g l) (hb : Below w.heap.size w w') : FunsAt w' g l := by
  intro i hi
  obtain ⟨A, c, h1, h2, h3, h4, h5⟩ := h i hi
  have hO := Off.of_below hb []
  exact ⟨A, c, hO.cell h1 (cell_in h1) (by simp), hO.cell h2 (cell_in h2) (by simp), hO.cell h3 (cell_in h3) (by simp), h4.off hO (by simp) (by simp), h5⟩

/-- What the sort wants, and what is behind it. -/
theorem made_sorted {B : Nat} {w : World} {v : Value} {fs : List Fn} (hM : Made B w v fs) (hl : fs.length ≤ 1000000) :
    ∃ g cap, v = .slice (some ⟨g, 0, none⟩) fs.length cap ∧ B ≤ g ∧ Calls Try.prog 43 #[.slice (some ⟨g, 0, none⟩) fs.length cap, .func (.func 44) #[] #[]] w fun e w' => e = .returned (.tuple #[]) ∧ ∃ l : List Fn, l.Perm fs ∧ l.Pairwise (fun f h => ¬ h.nm.data.toList < f.nm.data.toList) ∧ FunsAt w' g l ∧ Off [g] w w' := by
  obtain ⟨ds, h1, h2, ⟨g0, hg⟩, h4⟩ := hM
  have hlen : ds.length = fs.length := by rw [← h1]; simp
  rcases h2.2 with ⟨rfl, _⟩ | ⟨g, cap, cur, rfl, hB, hc, hcap, hmax, hsz, htk⟩
  · cases hg
  cases hg
  have hgl : g < w.heap.size := (Array.getElem?_eq_some_iff.1 hc).1
  have hHo : HoldsK FE.enc 3 w g 0 ds.toArray := by
    intro j hj
    rw [size_flatK] at hj
    have hj' : j < ds.length * 3 := by simpa using hj
    have hget := FE.get ds (j / 3) (j % 3) (by omega) (by omega)
    have ej : j / 3 * 3 + j % 3 = j := by omega
    rw [ej] at hget
    have hlt : j / 3 < ds.toArray.size := by simp; omega
    rw [Nat.zero_add]
    refine ⟨?_, ?_⟩
    · rw [get_flatK _ _ _ _ hj, getElem!_pos ds.toArray (j / 3) hlt, List.getElem_toArray]
      have := h2.cells (g := g) rfl j _ hget
      rwa [Addr.add_lit, Nat.zero_add] at this
    · have hBk : Bk g cur 35 w := hc
      exact hBk.free j
  refine ⟨g, cap, by rw [hlen], hB, ?_⟩
  have hs := sort_funs w g cap ds.toArray hHo hgl (by simp; omega)
  have es : ds.toArray.size = fs.length := by simp [hlen]
  rw [es] at hs
  refine hs.mono fun e w' ⟨he, d', hp, hso, hHd, hO⟩ => ⟨he, d'.toList.map FE.f, ?_, ?_, ?_, hO⟩
  · rw [← h1]
    exact (hp.map FE.f)
  · have hsd : d'.size = fs.length := by
      have := hp.length_eq
      simp at this
      omega
    rw [List.pairwise_map, List.pairwise_iff_getElem]
    intro i j hi hj hij
    simp at hi hj
    have := hso i j (Nat.zero_le _) hij (by omega)
    rw [FE.lt_eq, getElem!_pos d' i hi, getElem!_pos d' j hj] at this
    simpa using this
  · intro i hi
    simp at hi
    obtain ⟨q0, q1, q2⟩ := holds_get hHd i hi
    have hm : d'[i] ∈ ds := by
      have : d'[i] ∈ d'.toList := by simp
      simpa using hp.mem_iff.1 this
    refine ⟨d'[i].A, d'[i].c, by simpa using q0, by simpa using q1, by simpa using q2, ?_, ?_⟩
    · have := (h4 _ hm).2 [] (by simp)
      have hI := this.off hO (S := [g]) (T' := []) (fun b hb => .inl (by simpa [Value.ownBlock] using hb)) (by simp)
      simpa using hI
    · simpa using (h4 _ hm).1
end Nt
end Go.Proofs.Ytlcgdiciiibeeaa
