import PyProof.Rows.All
import Wide.All
import OpenK.AllK
import Wide.FinOn
import PySem.Challenge.RW_liftcourt_k01_masks
set_option Elab.async false
namespace My
open PySem PySem.W PySem.Calls PyProof.Rows
def cell (ns : List Int) (k : Int) : Int := if 0 < ns.length then ns.getD (Int.fmod k (ns.length : Int)).toNat 0 else 0
def draw (ns : List Int) (k many : Int) : Int :=
  Int.fmod (Int.fmod (Int.fmod ((Int.fmod (cell ns k) 2147483629 + 1) * (31 * k * k + 7919)) 2147483647 * 48271) 2147483629) many
theorem draw_fact (ns : List Int) (k many : Int) {vs : List Value} (_hi : IntsAre vs ns := by assumption) (h : 0 < many := by omega) : 0 ≤ draw ns k many ∧ draw ns k many < many := by
  unfold draw
  exact ⟨Int.fmod_nonneg_of_pos _ h, Int.fmod_lt_of_pos _ h⟩
theorem cell_pos {ns : List Int} {k : Int} (h : 0 < ns.length) : cell ns k = ns.getD (Int.fmod k (ns.length : Int)).toNat 0 := if_pos h
theorem cell_neg {ns : List Int} {k : Int} (h : ¬ 0 < ns.length) : cell ns k = 0 := if_neg h
theorem draw_in {ns : List Int} {k many : Int} (h : 0 < ns.length) :
    Int.fmod (Int.fmod (Int.fmod ((Int.fmod (ns.getD (Int.fmod k (ns.length : Int)).toNat 0) 2147483629 + 1) * (31 * k * k + 7919)) 2147483647 * 48271) 2147483629) many = draw ns k many := by
  unfold draw; rw [cell_pos h]
theorem draw_out {ns : List Int} {k many : Int} (h : ¬ 0 < ns.length) :
    Int.fmod (Int.fmod (Int.fmod ((0 + 1) * (31 * k * k + 7919)) 2147483647 * 48271) 2147483629) many = draw ns k many := by
  unfold draw; rw [cell_neg h]; rfl
def P (k : Int) : Int := 2 ^ k.toNat
theorem P_pos (k : Int) : 0 < P k := kbt_pos _
def maskV (ns : List Int) (k : Int) : Int :=
  let a := Int.fmod (cell ns k * 7919 + draw ns k 2147483629) (10 ^ 60)
  if draw ns (k + 1) 3 = 0 then Int.fmod a 256 else a
theorem mask_i0 {ns : List Int} {k : Int} (h : 0 < ns.length) (hd : draw ns (k + 1) 3 = 0) :
    ((ns.getD (k.fmod (ns.length : Int)).toNat 0 * 7919 + draw ns k 2147483629).fmod (10 ^ Int.toNat 60)).fmod 256 = maskV ns k := by
  unfold maskV; rw [cell_pos h, if_pos hd]; rfl
theorem mask_i1 {ns : List Int} {k : Int} (h : 0 < ns.length) (hd : ¬ draw ns (k + 1) 3 = 0) :
    ((ns.getD (k.fmod (ns.length : Int)).toNat 0 * 7919 + draw ns k 2147483629).fmod (10 ^ Int.toNat 60)) = maskV ns k := by
  unfold maskV; rw [cell_pos h, if_neg hd]; rfl
theorem mask_o0 {ns : List Int} {k : Int} (h : ¬ 0 < ns.length) (hd : draw ns (k + 1) 3 = 0) :
    ((0 * 7919 + draw ns k 2147483629).fmod (10 ^ Int.toNat 60)).fmod 256 = maskV ns k := by
  unfold maskV; rw [cell_neg h, if_pos hd]; rfl
theorem mask_o1 {ns : List Int} {k : Int} (h : ¬ 0 < ns.length) (hd : ¬ draw ns (k + 1) 3 = 0) :
    ((0 * 7919 + draw ns k 2147483629).fmod (10 ^ Int.toNat 60)) = maskV ns k := by
  unfold maskV; rw [cell_neg h, if_neg hd]; rfl
theorem mask_fact (ns : List Int) (k : Int) {vs : List Value} (_hi : IntsAre vs ns := by assumption) : 0 ≤ maskV ns k ∧ maskV ns k < 10 ^ 60 := by
  have e := Int.fmod_nonneg_of_pos (cell ns k * 7919 + draw ns k 2147483629) (show (0 : Int) < 10 ^ 60 by decide)
  have f := Int.fmod_lt_of_pos (cell ns k * 7919 + draw ns k 2147483629) (show (0 : Int) < 10 ^ 60 by decide)
  unfold maskV
  generalize Int.fmod (cell ns k * 7919 + draw ns k 2147483629) (10 ^ 60) = a at *
  dsimp only
  have e2 := Int.fmod_nonneg_of_pos a (show (0 : Int) < 256 by decide)
  have f2 := Int.fmod_lt_of_pos a (show (0 : Int) < 256 by decide)
  split <;> omega
def hasV (m k : Int) : Bool := decide (m / P k % 2 = 1)
def withV (m k : Int) : Int := if m / P k % 2 = 1 then m else m + P k
def withoutV (m k : Int) : Int := if m / P k % 2 = 1 then m - P k else m
theorem item2' (d : Int) : 12 ≤ [200, 12].getD (if 0 ≤ d ∧ d < 2 then d else 0).toNat 0 ∧ [200, 12].getD (if 0 ≤ d ∧ d < 2 then d else 0).toNat 0 ≤ (200 : Int) := by
  split
  · rename_i h
    have : d = 0 ∨ d = 1 := by omega
    rcases this with h | h <;> subst h <;> decide
  · decide
theorem item2 {ns : List Int} {vs : List Value} (_hi : IntsAre vs ns := by assumption) : 12 ≤ [200, 12].getD (if 0 ≤ draw ns 3 2 ∧ draw ns 3 2 < 2 then draw ns 3 2 else 0).toNat 0 ∧ [200, 12].getD (if 0 ≤ draw ns 3 2 ∧ draw ns 3 2 < 2 then draw ns 3 2 else 0).toNat 0 ≤ (200 : Int) := item2' _
theorem pow_start : (1 : Int) = 2 ^ ([] : List Int).length := rfl
theorem pow_turn {p k : Int} {pre : List Int} (h : p = 2 ^ pre.length) : p + p = 2 ^ (pre ++ [k]).length := by
  have l : (pre ++ [k]).length = pre.length + 1 := by simp
  rw [l, Int.pow_succ, h]; omega
theorem pow_end {p k : Int} {m : Nat} (h : p = 2 ^ (rangeKs 0 m).length) (hm : m = k.toNat) : p = P k := by
  rw [h, rangeKs_length, hm]; rfl
theorem bit_eq (k : Int) : 1 * 2 ^ k.toNat = P k := by rw [Int.one_mul]; rfl
theorem without_t {m k : Int} (h : hasV m k = true) : m - P k = withoutV m k := by
  unfold withoutV; rw [if_pos (of_decide_eq_true h)]
theorem without_f {m k : Int} (h : hasV m k = false) : m = withoutV m k := by
  unfold withoutV; rw [if_neg (of_decide_eq_false h)]
theorem has_eq (m k : Int) : (Builtin.bitAnd m (P k) != 0) = hasV m k := by
  unfold hasV P
  rw [kbt_bit]
  have hp := kbt_pos k.toNat
  rcases Int.emod_two_eq (m / 2 ^ k.toNat) with h | h
  · rw [h, Int.zero_mul]; rfl
  · rw [h, Int.one_mul]
    have : (2 : Int) ^ k.toNat ≠ 0 := by omega
    simp [this]
theorem or_eq (m k : Int) : Builtin.bitOr m (P k) = withV m k := by
  unfold withV P
  rw [bitOr_and, kbt_bit]
  rcases Int.emod_two_eq (m / 2 ^ k.toNat) with h | h
  · rw [h, if_neg (by decide)]; omega
  · rw [h, if_pos rfl]; omega
theorem held_eq (m k : Int) : hasV m k = ((m.fdiv (P k)).fmod 2 == 1) := by
  unfold hasV
  rw [Int.fdiv_eq_ediv_of_nonneg m (Int.le_of_lt (P_pos k)), Int.fmod_eq_emod_of_nonneg _ (show (0 : Int) ≤ 2 by decide)]
  cases h : decide (m / P k % 2 = 1)
  · exact (beq_eq_false_iff_ne.mpr (of_decide_eq_false h)).symm
  · exact (beq_iff_eq.mpr (of_decide_eq_true h)).symm
def put (m k : Int) : Int := m + P k * if (!(m.fdiv (P k)).fmod 2 == 1) = true then 1 else 0
def left (m k : Int) : Int := m - P k * if ((m.fdiv (P k)).fmod 2 == 1) = true then 1 else 0
theorem withV_eq (m k : Int) : withV m k = put m k := by
  unfold withV put
  rw [← held_eq]
  unfold hasV
  by_cases h : m / P k % 2 = 1
  · rw [if_pos h, decide_eq_true h]; simp
  · rw [if_neg h, decide_eq_false h]; simp
theorem withoutV_eq (m k : Int) : withoutV m k = left m k := by
  unfold withoutV left
  rw [← held_eq]
  unfold hasV
  by_cases h : m / P k % 2 = 1
  · rw [if_pos h, decide_eq_true h]; simp
  · rw [if_neg h, decide_eq_false h]; simp
theorem has_with (m k : Int) : hasV (withV m k) k = true := by
  have hp := P_pos k
  unfold withV
  by_cases h : m / P k % 2 = 1
  · rw [if_pos h]; exact decide_eq_true h
  · rw [if_neg h]
    have e : (m + P k) / P k = m / P k + 1 := by
      have := Int.add_mul_ediv_right m 1 (c := P k) (by omega)
      rw [Int.one_mul] at this
      exact this
    exact decide_eq_true (by rw [e]; omega)
theorem has_without (m k : Int) : hasV (withoutV m k) k = false := by
  have hp := P_pos k
  unfold withoutV
  by_cases h : m / P k % 2 = 1
  · rw [if_pos h]
    have e : (m - P k) / P k = m / P k - 1 := by
      have := Int.add_mul_ediv_right m (-1) (c := P k) (by omega)
      rw [show m + -1 * P k = m - P k by omega] at this
      rw [this]; omega
    exact decide_eq_false (by rw [e]; omega)
  · rw [if_neg h]; exact decide_eq_false h
theorem has_put (m k : Int) : hasV (put m k) k = true := by rw [← withV_eq]; exact has_with m k
theorem has_left (m k : Int) : hasV (left m k) k = false := by rw [← withoutV_eq]; exact has_without m k
theorem with_put (m k : Int) : withV (put m k) k = put m k := by
  have h := of_decide_eq_true (has_put m k)
  unfold withV; rw [if_pos h]
theorem without_left (m k : Int) : withoutV (left m k) k = left m k := by
  have h := of_decide_eq_false (has_left m k)
  unfold withoutV; rw [if_neg h]
theorem e_has {m k : Int} (h : (hasV m k != ((m.fdiv (P k)).fmod 2 == 1)) = true) : False := by
  rw [held_eq] at h; simp at h
theorem e_with {m k : Int} (h : withV m k ≠ m + P k * if (!(m.fdiv (P k)).fmod 2 == 1) = true then 1 else 0) : False := h (withV_eq m k)
theorem e_without {m k : Int} (h : withoutV m k ≠ m - P k * if ((m.fdiv (P k)).fmod 2 == 1) = true then 1 else 0) : False := h (withoutV_eq m k)
theorem e_put {m k : Int} (h : withV (m + P k * if (!(m.fdiv (P k)).fmod 2 == 1) = true then 1 else 0) k ≠ m + P k * if (!(m.fdiv (P k)).fmod 2 == 1) = true then 1 else 0) : False := h (with_put m k)
theorem e_left {m k : Int} (h : withoutV (m - P k * if ((m.fdiv (P k)).fmod 2 == 1) = true then 1 else 0) k ≠ m - P k * if ((m.fdiv (P k)).fmod 2 == 1) = true then 1 else 0) : False := h (without_left m k)
theorem e_hput {m k : Int} (h : hasV (m + P k * if (!(m.fdiv (P k)).fmod 2 == 1) = true then 1 else 0) k = false) : False := by
  have e := has_put m k
  rw [show hasV (put m k) k = false from h] at e
  cases e
theorem f_left (m k : Int) : ((hasV (m - P k * if ((m.fdiv (P k)).fmod 2 == 1) = true then 1 else 0) k == false) == true) = true := by
  rw [show hasV (m - P k * if ((m.fdiv (P k)).fmod 2 == 1) = true then 1 else 0) k = false from has_left m k]; rfl
theorem f_put (m k : Int) : ((hasV (m + P k * if (!(m.fdiv (P k)).fmod 2 == 1) = true then 1 else 0) k == true) == true) = true := by
  rw [show hasV (m + P k * if (!(m.fdiv (P k)).fmod 2 == 1) = true then 1 else 0) k = true from has_put m k]; rfl
theorem f_with (m k : Int) : ((withV (m + P k * if (!(m.fdiv (P k)).fmod 2 == 1) = true then 1 else 0) k == (m + P k * if (!(m.fdiv (P k)).fmod 2 == 1) = true then 1 else 0)) == true) = true := by
  rw [show withV (m + P k * if (!(m.fdiv (P k)).fmod 2 == 1) = true then 1 else 0) k = _ from with_put m k]; unfold put; rw [beq_self_eq_true]; rfl
theorem f_without (m k : Int) : ((withoutV (m - P k * if ((m.fdiv (P k)).fmod 2 == 1) = true then 1 else 0) k == (m - P k * if ((m.fdiv (P k)).fmod 2 == 1) = true then 1 else 0)) == true) = true := by
  rw [show withoutV (m - P k * if ((m.fdiv (P k)).fmod 2 == 1) = true then 1 else 0) k = _ from without_left m k]; unfold left; rw [beq_self_eq_true]; rfl
end My
open PySem PySem.W PyProof.Rows
open_top head for PySem.Challenge.rw_liftcourt_k01_masks
local macro_rules | `(tactic| walk_at "eval Call") => `(tactic| (k_here; (with_reducible show wpAny _ _ (PySem.eval (PySem.Expr.Call (PySem.Expr.Name _ _) _ [] _) _) _ _ _); k_dflt (refine Call_ ?_)))
set_option maxRecDepth 100000 in
set_option maxHeartbeats 8000000 in
theorem PySem.Challenge.cw_liftcourt_k01_masks_holds : PySem.Challenge.rw_liftcourt_k01_masks.Holds :=
  head (by
    k_with "fact _law_draw" => exact My.draw_fact
    k_with "fact _law_mask" => exact My.mask_fact
    k_with "fact _law_power" => exact My.P_pos
    k_with "tree" => (first | exact My.draw_in (by omega) | exact My.draw_out (by omega) | exact My.pow_end (by assumption) (by omega) | exact My.mask_i0 (by omega) (by omega) | exact My.mask_i1 (by omega) (by omega) | exact My.mask_o0 (by omega) (by omega) | exact My.mask_o1 (by omega) (by omega) | exact My.without_t (by assumption) | exact My.without_f (by assumption) | exact My.without_f (by simpa using ‹_›) | exact My.bit_eq _ | exact My.has_eq _ _ | exact My.or_eq _ _)
    k_with "end" => first | exact absurd rfl (by assumption) | exact (My.e_has (by assumption)).elim | exact (My.e_with (by assumption)).elim | exact (My.e_without (by assumption)).elim | exact (My.e_put (by assumption)).elim | exact (My.e_left (by assumption)).elim | exact (My.e_hput (by assumption)).elim | exact My.f_left _ _ | exact My.f_put _ _ | exact My.f_with _ _ | exact My.f_without _ _
    k_with "state" => first | exact My.pow_start | exact My.pow_turn (by assumption)
    k_with "pyIter ref" => k_state (fun pre p => p = 2 ^ pre.length) "_law_power_here"
    k_with "call ref" => ((try kmn_bounds); k_call_by "_law_draw" My.draw (fun (_ : List Int) (k many : Int) => 0 ≤ k ∧ k < 1000 ∧ 0 < many))
    k_with "call ref" => (k_call_by "bit" My.P (fun (k : Int) => 0 ≤ k ∧ k < 200))
    k_with "call ref" => (k_call_by "_law_power" My.P (fun (k : Int) => 0 ≤ k ∧ k < 200))
    k_with "call ref" => (k_call_rec "has" My.hasV (fun (_ k : Int) => 0 ≤ k ∧ k < 200) (fun (_ _ : Int) => 2))
    k_with "call ref" => (k_call_rec "with_bit" My.withV (fun (_ k : Int) => 0 ≤ k ∧ k < 200) (fun (_ _ : Int) => 2))
    k_with "call ref" => (k_call_rec "without" My.withoutV (fun (_ k : Int) => 0 ≤ k ∧ k < 200) (fun (_ _ : Int) => 4))
    k_with "call ref" => (k_call_rec "_law_mask" My.maskV (fun (_ : List Int) (k : Int) => 0 ≤ k ∧ k < 900) (fun (_ : List Int) (_ : Int) => 2))
    w_strict k_go)
