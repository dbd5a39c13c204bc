/-
  All sixty-four roots, by the kernel, each for itself.
-/
import Derived.Test.YtbicjcpdcopbhaaDoorRo1
namespace Go.Proofs.YtbicjcpdcopbhaaDoor
set_option linter.unusedVariables false
def PT : List Nat := [2, 3, 5, 7, 11, 13, 17, 19, 23, 29, 31, 37, 41, 43, 47, 53, 59, 61, 67, 71, 73, 79, 83, 89, 97, 101, 103, 107, 109, 113, 127, 131, 137, 139, 149, 151, 157, 163, 167, 173, 179, 181, 191, 193, 197, 199, 211, 223, 227, 229, 233, 239, 241, 251, 257, 263, 269, 271, 277, 281, 283, 293, 307, 311]
theorem rk0 : kL.getD 0 0 = rootL 2 true := by kernel_rfl
theorem rk1 : kL.getD 1 0 = rootL 3 true := by kernel_rfl
theorem rk2 : kL.getD 2 0 = rootL 5 true := by kernel_rfl
theorem rk3 : kL.getD 3 0 = rootL 7 true := by kernel_rfl
theorem rk4 : kL.getD 4 0 = rootL 11 true := by kernel_rfl
theorem rk5 : kL.getD 5 0 = rootL 13 true := by kernel_rfl
theorem rk6 : kL.getD 6 0 = rootL 17 true := by kernel_rfl
theorem rk7 : kL.getD 7 0 = rootL 19 true := by kernel_rfl
theorem rk8 : kL.getD 8 0 = rootL 23 true := by kernel_rfl
theorem rk9 : kL.getD 9 0 = rootL 29 true := by kernel_rfl
theorem rk10 : kL.getD 10 0 = rootL 31 true := by kernel_rfl
theorem rk11 : kL.getD 11 0 = rootL 37 true := by kernel_rfl
theorem rk12 : kL.getD 12 0 = rootL 41 true := by kernel_rfl
theorem rk13 : kL.getD 13 0 = rootL 43 true := by kernel_rfl
theorem rk14 : kL.getD 14 0 = rootL 47 true := by kernel_rfl
theorem rk15 : kL.getD 15 0 = rootL 53 true := by kernel_rfl
theorem rk16 : kL.getD 16 0 = rootL 59 true := by kernel_rfl
theorem rk17 : kL.getD 17 0 = rootL 61 true := by kernel_rfl
theorem rk18 : kL.getD 18 0 = rootL 67 true := by kernel_rfl
theorem rk19 : kL.getD 19 0 = rootL 71 true := by kernel_rfl
theorem rk20 : kL.getD 20 0 = rootL 73 true := by kernel_rfl
theorem rk21 : kL.getD 21 0 = rootL 79 true := by kernel_rfl
theorem rk22 : kL.getD 22 0 = rootL 83 true := by kernel_rfl
theorem rk23 : kL.getD 23 0 = rootL 89 true := by kernel_rfl
theorem rk24 : kL.getD 24 0 = rootL 97 true := by kernel_rfl
theorem rk25 : kL.getD 25 0 = rootL 101 true := by kernel_rfl
theorem rk26 : kL.getD 26 0 = rootL 103 true := by kernel_rfl
theorem rk27 : kL.getD 27 0 = rootL 107 true := by kernel_rfl
theorem rk28 : kL.getD 28 0 = rootL 109 true := by kernel_rfl
theorem rk29 : kL.getD 29 0 = rootL 113 true := by kernel_rfl
theorem rk30 : kL.getD 30 0 = rootL 127 true := by kernel_rfl
theorem rk31 : kL.getD 31 0 = rootL 131 true := by kernel_rfl
theorem rk32 : kL.getD 32 0 = rootL 137 true := by kernel_rfl
theorem rk33 : kL.getD 33 0 = rootL 139 true := by kernel_rfl
theorem rk34 : kL.getD 34 0 = rootL 149 true := by kernel_rfl
theorem rk35 : kL.getD 35 0 = rootL 151 true := by kernel_rfl
theorem rk36 : kL.getD 36 0 = rootL 157 true := by kernel_rfl
theorem rk37 : kL.getD 37 0 = rootL 163 true := by kernel_rfl
theorem rk38 : kL.getD 38 0 = rootL 167 true := by kernel_rfl
theorem rk39 : kL.getD 39 0 = rootL 173 true := by kernel_rfl
theorem rk40 : kL.getD 40 0 = rootL 179 true := by kernel_rfl
theorem rk41 : kL.getD 41 0 = rootL 181 true := by kernel_rfl
theorem rk42 : kL.getD 42 0 = rootL 191 true := by kernel_rfl
theorem rk43 : kL.getD 43 0 = rootL 193 true := by kernel_rfl
theorem rk44 : kL.getD 44 0 = rootL 197 true := by kernel_rfl
theorem rk45 : kL.getD 45 0 = rootL 199 true := by kernel_rfl
theorem rk46 : kL.getD 46 0 = rootL 211 true := by kernel_rfl
theorem rk47 : kL.getD 47 0 = rootL 223 true := by kernel_rfl
theorem rk48 : kL.getD 48 0 = rootL 227 true := by kernel_rfl
theorem rk49 : kL.getD 49 0 = rootL 229 true := by kernel_rfl
theorem rk50 : kL.getD 50 0 = rootL 233 true := by kernel_rfl
theorem rk51 : kL.getD 51 0 = rootL 239 true := by kernel_rfl
theorem rk52 : kL.getD 52 0 = rootL 241 true := by kernel_rfl
theorem rk53 : kL.getD 53 0 = rootL 251 true := by kernel_rfl
theorem rk54 : kL.getD 54 0 = rootL 257 true := by kernel_rfl
theorem rk55 : kL.getD 55 0 = rootL 263 true := by kernel_rfl
theorem rk56 : kL.getD 56 0 = rootL 269 true := by kernel_rfl
theorem rk57 : kL.getD 57 0 = rootL 271 true := by kernel_rfl
theorem rk58 : kL.getD 58 0 = rootL 277 true := by kernel_rfl
theorem rk59 : kL.getD 59 0 = rootL 281 true := by kernel_rfl
theorem rk60 : kL.getD 60 0 = rootL 283 true := by kernel_rfl
theorem rk61 : kL.getD 61 0 = rootL 293 true := by kernel_rfl
theorem rk62 : kL.getD 62 0 = rootL 307 true := by kernel_rfl
theorem rk63 : kL.getD 63 0 = rootL 311 true := by kernel_rfl
theorem rh0 : firstL.getD 0 0 = rootL 2 false := by kernel_rfl
theorem rh1 : firstL.getD 1 0 = rootL 3 false := by kernel_rfl
theorem rh2 : firstL.getD 2 0 = rootL 5 false := by kernel_rfl
theorem rh3 : firstL.getD 3 0 = rootL 7 false := by kernel_rfl
theorem rh4 : firstL.getD 4 0 = rootL 11 false := by kernel_rfl
theorem rh5 : firstL.getD 5 0 = rootL 13 false := by kernel_rfl
theorem rh6 : firstL.getD 6 0 = rootL 17 false := by kernel_rfl
theorem rh7 : firstL.getD 7 0 = rootL 19 false := by kernel_rfl
theorem rk_all : ∀ j, j < 64 → kL.getD j 0 = rootL (PT.getD j 0) true
  | 0, _ => rk0
  | 1, _ => rk1
  | 2, _ => rk2
  | 3, _ => rk3
  | 4, _ => rk4
  | 5, _ => rk5
  | 6, _ => rk6
  | 7, _ => rk7
  | 8, _ => rk8
  | 9, _ => rk9
  | 10, _ => rk10
  | 11, _ => rk11
  | 12, _ => rk12
  | 13, _ => rk13
  | 14, _ => rk14
  | 15, _ => rk15
  | 16, _ => rk16
  | 17, _ => rk17
  | 18, _ => rk18
  | 19, _ => rk19
  | 20, _ => rk20
  | 21, _ => rk21
  | 22, _ => rk22
  | 23, _ => rk23
  | 24, _ => rk24
  | 25, _ => rk25
  | 26, _ => rk26
  | 27, _ => rk27
  | 28, _ => rk28
  | 29, _ => rk29
  | 30, _ => rk30
  | 31, _ => rk31
  | 32, _ => rk32
  | 33, _ => rk33
  | 34, _ => rk34
  | 35, _ => rk35
  | 36, _ => rk36
  | 37, _ => rk37
  | 38, _ => rk38
  | 39, _ => rk39
  | 40, _ => rk40
  | 41, _ => rk41
  | 42, _ => rk42
  | 43, _ => rk43
  | 44, _ => rk44
  | 45, _ => rk45
  | 46, _ => rk46
  | 47, _ => rk47
  | 48, _ => rk48
  | 49, _ => rk49
  | 50, _ => rk50
  | 51, _ => rk51
  | 52, _ => rk52
  | 53, _ => rk53
  | 54, _ => rk54
  | 55, _ => rk55
  | 56, _ => rk56
  | 57, _ => rk57
  | 58, _ => rk58
  | 59, _ => rk59
  | 60, _ => rk60
  | 61, _ => rk61
  | 62, _ => rk62
  | 63, _ => rk63
  | n + 64, h => absurd h (by omega)
theorem rh_all : ∀ j, j < 8 → firstL.getD j 0 = rootL (PT.getD j 0) false
  | 0, _ => rh0
  | 1, _ => rh1
  | 2, _ => rh2
  | 3, _ => rh3
  | 4, _ => rh4
  | 5, _ => rh5
  | 6, _ => rh6
  | 7, _ => rh7
  | n + 8, h => absurd h (by omega)
def chp : Nat → Nat → Nat → Bool
  | 0, _, _ => true
  | f + 1, n, c => if prm n then decide (PT.getD c 0 = n + 2) && chp f (n + 1) (c + 1) else chp f (n + 1) c
theorem chp_all : chp 310 0 0 = true := by kernel_rfl
theorem pi_all : piN 310 = 64 := by kernel_rfl
theorem pi_step (n : Nat) : piN n ≤ piN (n + 1) := by simp only [piN]; split <;> omega
theorem pi_mono {m n : Nat} (h : m ≤ n) : piN m ≤ piN n := by
  induction n with
  | zero => obtain rfl : m = 0 := by omega
            exact Nat.le_refl _
  | succ n ih =>
    by_cases hm : m = n + 1
    · subst hm; exact Nat.le_refl _
    · exact Nat.le_trans (ih (by omega)) (pi_step n)
theorem chp_at (f : Nat) : ∀ n c m, chp f n c = true → c = piN n → n ≤ m → m < n + f → prm m = true → PT.getD (piN m) 0 = m + 2 := by
  induction f with
  | zero => intro n c m _ _ h1 h2; omega
  | succ f ih =>
    intro n c m hc hcp h1 h2 hp
    rw [chp] at hc
    by_cases hn : prm n = true
    · rw [if_pos hn, Bool.and_eq_true] at hc
      obtain ⟨a1, a3⟩ := hc
      by_cases hm : m = n
      · subst hm hcp
        exact of_decide_eq_true a1
      · exact ih (n + 1) (c + 1) m a3 (by simp only [piN, hn, if_true]; omega) (by omega) (by omega) hp
    · rw [if_neg hn] at hc
      by_cases hm : m = n
      · subst hm; exact absurd hp hn
      · exact ih (n + 1) c m hc (by simp only [piN]; rw [if_neg hn]; omega) (by omega) (by omega) hp
theorem roots (m : Nat) (hm : m < 310) (hp : prm m = true) : kL.getD (piN m) 0 = rootL (m + 2) true ∧ (piN m < 8 → firstL.getD (piN m) 0 = rootL (m + 2) false) := by
  have h1 := chp_at 310 0 0 m chp_all rfl (by omega) (by omega) hp
  have h2 : piN m < 64 := by
    have : piN (m + 1) ≤ piN 310 := pi_mono (by omega)
    rw [pi_all] at this
    simp only [piN, hp, if_true] at this
    omega
  rw [← h1]
  exact ⟨rk_all _ h2, fun h8 => rh_all _ h8⟩
end Go.Proofs.YtbicjcpdcopbhaaDoor
