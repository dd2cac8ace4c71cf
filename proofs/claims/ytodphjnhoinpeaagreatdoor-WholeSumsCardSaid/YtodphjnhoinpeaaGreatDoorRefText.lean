/-
  The reference's TextNat.
-/
import Derived.Test.YtodphjnhoinpeaaGreatDoorText2
import Derived.Test.YtodphjnhoinpeaaGreatDoorRefAdd
import Derived.Test.YtodphjnhoinpeaaGreatDoorAwake
import Derived.Laws.IdiomStrings
namespace Go.Proofs.YtodphjnhoinpeaaGreatDoor
open Go.RowKit
namespace Nt

theorem dec_step {v : Nat} (h : 10 ≤ v) : Lib.decDigits v = Lib.decDigits (v / 10) ++ [UInt8.ofNat (48 + v % 10)] := by
  rw [Lib.decDigits, dif_neg (by omega)]
theorem dec_last {v : Nat} (h : v < 10) : Lib.decDigits v = [UInt8.ofNat (48 + v % 10)] := by
  rw [Lib.decDigits_one h, Nat.mod_eq_of_lt h]

/-- What is still to be written, and what stands behind it. -/
def TxInv (x v : Nat) (t : List UInt8) : Prop := (v = 0 ∧ t = Lib.decDigits x) ∨ (0 < v ∧ Lib.decDigits v ++ t = Lib.decDigits x)
theorem TxInv.step {x v : Nat} {t : List UInt8} (hv : 0 < v) (h : TxInv x v t) : TxInv x (v / 10) (UInt8.ofNat (48 + v % 10) :: t) := by
  rcases h with ⟨h, _⟩ | ⟨_, h⟩
  · omega
  · by_cases h10 : v < 10
    · rw [dec_last h10] at h
      exact .inl ⟨by omega, h⟩
    · rw [dec_step (by omega), List.append_assoc] at h
      exact .inr ⟨by omega, h⟩

theorem str_cons (x : UInt8) (s : ByteArray) : ((⟨#[x]⟩ : ByteArray) ++ s).data.toList = x :: s.data.toList := by simp
theorem str_size (x : UInt8) (s : ByteArray) : ((⟨#[x]⟩ : ByteArray) ++ s).size = s.size + 1 := by
  rw [Lib.size_eq, str_cons, Lib.size_eq]; rfl
theorem dec_room {x v : Nat} {s : ByteArray} (_hv : 0 < v) (h : Lib.decDigits v ++ s.data.toList = Lib.decDigits x) : s.size < (Lib.decDigits x).length := by
  rw [← h, List.length_append, Lib.size_eq]
  have : 0 < (Lib.decDigits v).length := by
    rw [Lib.decDigits]
    split <;> simp
  omega
theorem nd_le : ∀ (k n : Nat), 1 ≤ k → n < 10 ^ k → Lib.nDigits n ≤ k
  | 0, _, h, _ => by omega
  | 1, n, _, h => by rw [Lib.nDigits_small (by omega)]; omega
  | k + 2, n, _, h => by
    by_cases h10 : n < 10
    · rw [Lib.nDigits_small h10]; omega
    · rw [Lib.nDigits_big h10]
      have := nd_le (k + 1) (n / 10) (by omega) (by rw [Nat.pow_succ] at h; omega)
      omega
theorem dec_len {n : Nat} (h : n < LB ^ 64) : (Lib.decDigits n).length ≤ 10000 := by
  rw [Lib.decDigits_length]
  have key : ∀ k j : Nat, j = 20 * k → 1 ≤ k → n < LB ^ k → Lib.nDigits n ≤ j := fun k j hj hk hn => by
    refine nd_le j n (by omega) (Nat.lt_of_lt_of_le hn ?_)
    rw [hj, Nat.pow_mul]
    exact Nat.pow_le_pow_left (by decide) _
  exact Nat.le_trans (key 64 _ rfl (by omega) h) (by omega)
theorem kc_byte (W : World) (r : Nat) (hr : r < 10) : (convert 80 9 (.slice (some ⟨W.heap.size, 0, none⟩) 1 1)).run Tryz.prog (W.alloc (.cells #[.int .u8 (48 + (r : Int))] 5)) =
    .ok (.string ⟨#[UInt8.ofNat (48 + r)]⟩) (W.alloc (.cells #[.int .u8 (48 + (r : Int))] 5)) := by
  refine run_convert_bytes_back (P := Tryz.prog) (W.alloc (.cells #[.int .u8 (48 + (r : Int))] 5)) 80 9 5 ⟨W.heap.size, 0, none⟩ 1 [UInt8.ofNat (48 + r)] Tryz.underlying80 Tryz.underlying5 Tryz.underlying9 ?_
  intro j hj
  obtain rfl : j = 0 := by simp at hj; omega
  rw [show (⟨W.heap.size, 0, none⟩ : Addr).add 0 = ⟨W.heap.size, 0, none⟩ by rfl, cell_of_row (W.alloc (.cells #[.int .u8 (48 + (r : Int))] 5)) W.heap.size 0 _ _ (0, 0) (heap_alloc_new W _)]
  have : (48 + r) % 256 = 48 + r := Nat.mod_eq_of_lt (by omega)
  simp [this]
theorem str_eq {s : ByteArray} {l : List UInt8} (h : s.data.toList = l) : s = ⟨l.toArray⟩ := by subst h; rfl
theorem ret_str {s t : ByteArray} (h : s = t) : Ending.returned (.string s) = .returned (.string t) := by rw [h]
def strLen (v : Value) : Nat := match v with | .string s => s.size | _ => 0

end Nt
end Go.Proofs.YtodphjnhoinpeaaGreatDoor
