import PyProof.Rows.All
import Wide.All
import OpenK.AllK
import Wide.FinOn
import PySem.Challenge.RW_fivefields_k11_long_years
open PySem PySem.W PyProof.Rows
set_option Elab.async false
namespace My
open PySem PySem.W PySem.Calls PyProof.Rows
section
variable {prog : Program} {w : World} {A : Around} {E : Value → Shared → Prop} {s : Shared} {x y : Int} {t u : Tok} {Q : Value → Shared → Prop}
theorem pow20 (h : Q (.int 100000000000000000000 s.toks) { s with toks := s.toks + 1 }) : wpAny (model prog w) A (binaryOp .Pow (.int 10 t) (.int 20 u)) Q E s :=
  PyProof.Rows.pow_int_small (by decide) (by decide) (by decide) (by
    have e : (10 : Int) ^ (20 : Int).toNat = 100000000000000000000 := by decide +kernel
    rw [e]; exact h)
theorem pow50 (h : Q (.int 100000000000000000000000000000000000000000000000000 s.toks) { s with toks := s.toks + 1 }) : wpAny (model prog w) A (binaryOp .Pow (.int 10 t) (.int 50 u)) Q E s :=
  PyProof.Rows.pow_int_small (by decide) (by decide) (by decide) (by
    have e : (10 : Int) ^ (50 : Int).toNat = 100000000000000000000000000000000000000000000000000 := by decide +kernel
    rw [e]; exact h)
theorem pow51 (h : Q (.int 1000000000000000000000000000000000000000000000000000 s.toks) { s with toks := s.toks + 1 }) : wpAny (model prog w) A (binaryOp .Pow (.int 10 t) (.int 51 u)) Q E s :=
  PyProof.Rows.pow_int_small (by decide) (by decide) (by decide) (by
    have e : (10 : Int) ^ (51 : Int).toNat = 1000000000000000000000000000000000000000000000000000 := by decide +kernel
    rw [e]; exact h)
theorem pow54 (h : Q (.int 1000000000000000000000000000000000000000000000000000000 s.toks) { s with toks := s.toks + 1 }) : wpAny (model prog w) A (binaryOp .Pow (.int 10 t) (.int 54 u)) Q E s :=
  PyProof.Rows.pow_int_small (by decide) (by decide) (by decide) (by
    have e : (10 : Int) ^ (54 : Int).toNat = 1000000000000000000000000000000000000000000000000000000 := by decide +kernel
    rw [e]; exact h)
theorem pow56 (h : Q (.int 100000000000000000000000000000000000000000000000000000000 s.toks) { s with toks := s.toks + 1 }) : wpAny (model prog w) A (binaryOp .Pow (.int 10 t) (.int 56 u)) Q E s :=
  PyProof.Rows.pow_int_small (by decide) (by decide) (by decide) (by
    have e : (10 : Int) ^ (56 : Int).toNat = 100000000000000000000000000000000000000000000000000000000 := by decide +kernel
    rw [e]; exact h)
theorem pow57 (h : Q (.int 1000000000000000000000000000000000000000000000000000000000 s.toks) { s with toks := s.toks + 1 }) : wpAny (model prog w) A (binaryOp .Pow (.int 10 t) (.int 57 u)) Q E s :=
  PyProof.Rows.pow_int_small (by decide) (by decide) (by decide) (by
    have e : (10 : Int) ^ (57 : Int).toNat = 1000000000000000000000000000000000000000000000000000000000 := by decide +kernel
    rw [e]; exact h)
theorem pow58 (h : Q (.int 10000000000000000000000000000000000000000000000000000000000 s.toks) { s with toks := s.toks + 1 }) : wpAny (model prog w) A (binaryOp .Pow (.int 10 t) (.int 58 u)) Q E s :=
  PyProof.Rows.pow_int_small (by decide) (by decide) (by decide) (by
    have e : (10 : Int) ^ (58 : Int).toNat = 10000000000000000000000000000000000000000000000000000000000 := by decide +kernel
    rw [e]; exact h)
theorem pow59 (h : Q (.int 100000000000000000000000000000000000000000000000000000000000 s.toks) { s with toks := s.toks + 1 }) : wpAny (model prog w) A (binaryOp .Pow (.int 10 t) (.int 59 u)) Q E s :=
  PyProof.Rows.pow_int_small (by decide) (by decide) (by decide) (by
    have e : (10 : Int) ^ (59 : Int).toNat = 100000000000000000000000000000000000000000000000000000000000 := by decide +kernel
    rw [e]; exact h)
theorem pow60 (h : Q (.int 1000000000000000000000000000000000000000000000000000000000000 s.toks) { s with toks := s.toks + 1 }) : wpAny (model prog w) A (binaryOp .Pow (.int 10 t) (.int 60 u)) Q E s :=
  PyProof.Rows.pow_int_small (by decide) (by decide) (by decide) (by
    have e : (10 : Int) ^ (60 : Int).toNat = 1000000000000000000000000000000000000000000000000000000000000 := by decide +kernel
    rw [e]; exact h)
theorem mod_big (hy : 10000000000000000 < y) (h : ∀ r, 0 ≤ r → r < y → Q (.int r s.toks) { s with toks := s.toks + 1 }) :
    wpAny (model prog w) A (binaryOp .Mod (.int x t) (.int y u)) Q E s :=
  PyProof.Rows.mod_int (by omega) (h _ (Int.fmod_nonneg_of_pos x (by omega)) (Int.fmod_lt_of_pos x (by omega)))
end
end My
local macro_rules | `(tactic| walk_at "binaryOp Pow int int") => `(tactic| (k_here; (with_reducible refine' My.pow20 ?_); (try dsimp only)))
local macro_rules | `(tactic| walk_at "binaryOp Pow int int") => `(tactic| (k_here; (with_reducible refine' My.pow50 ?_); (try dsimp only)))
local macro_rules | `(tactic| walk_at "binaryOp Pow int int") => `(tactic| (k_here; (with_reducible refine' My.pow51 ?_); (try dsimp only)))
local macro_rules | `(tactic| walk_at "binaryOp Pow int int") => `(tactic| (k_here; (with_reducible refine' My.pow54 ?_); (try dsimp only)))
local macro_rules | `(tactic| walk_at "binaryOp Pow int int") => `(tactic| (k_here; (with_reducible refine' My.pow56 ?_); (try dsimp only)))
local macro_rules | `(tactic| walk_at "binaryOp Pow int int") => `(tactic| (k_here; (with_reducible refine' My.pow57 ?_); (try dsimp only)))
local macro_rules | `(tactic| walk_at "binaryOp Pow int int") => `(tactic| (k_here; (with_reducible refine' My.pow58 ?_); (try dsimp only)))
local macro_rules | `(tactic| walk_at "binaryOp Pow int int") => `(tactic| (k_here; (with_reducible refine' My.pow59 ?_); (try dsimp only)))
local macro_rules | `(tactic| walk_at "binaryOp Pow int int") => `(tactic| (k_here; (with_reducible refine' My.pow60 ?_); (try dsimp only)))
local macro_rules | `(tactic| walk_at "binaryOp Add int int") => `(tactic| (k_here; (with_reducible refine' PyProof.Rows.add_int ?_); (try dsimp only)))
local macro_rules | `(tactic| walk_at "binaryOp Sub int int") => `(tactic| (k_here; (with_reducible refine' PyProof.Rows.sub_int ?_); (try dsimp only)))
local macro_rules | `(tactic| walk_at "binaryOp Mod int int") => `(tactic| (k_here; (with_reducible refine' PyProof.Rows.mod_int' ?k1 ?_); (case k1 => k_dflt (first | decide | omega)); (try dsimp only)))
local macro_rules | `(tactic| walk_at "binaryOp Mult int int") => `(tactic| (k_here; (with_reducible refine' PyProof.Rows.mul_int ?_); (try dsimp only)))
namespace My
def isLong (y : Int) : Bool := (y.fmod 4 == 0) && ((y.fmod 100 != 0) || (y.fmod 400 == 0))
def yearF (c w : Int) : Int :=
  if w.fmod 4 = 0 then c.fmod 1201 - 400 else
  if w.fmod 4 = 1 then c.fmod 101 * 100 - 5000 + (c.fdiv 101).fmod 3 - 1 else
  if w.fmod 4 = 2 then c.fmod 30 * 4 + 1970 else c.fmod (2 * 100000000000000000000000000000000000000000000000000000000000 + 1) - 100000000000000000000000000000000000000000000000000000000000
end My
local macro_rules | `(tactic| walk_at "eval Call") => `(tactic| (k_here; (first | (with_reducible show wpAny _ _ (eval (Expr.Call (Expr.Name "_law_year" _) _ _ _) _) _ _ _) | (with_reducible show wpAny _ _ (eval (Expr.Call (Expr.Name "is_long" _) _ _ _) _) _ _ _) | (with_reducible show wpAny _ _ (eval (Expr.Call (Expr.Name "_law_long" _) _ _ _) _) _ _ _)); k_dflt (refine Call_ ?_)))
local macro_rules | `(tactic| walk_at "binaryOp FloorDiv int int") => `(tactic| (k_here; (with_reducible refine' PyProof.Rows.floordiv_int ?k1 ?_); (case k1 => k_dflt (first | decide | omega)); (try dsimp only)))
namespace My
theorem fm {y m : Int} (h : 0 ≤ m) : y.fmod m = y % m := Int.fmod_eq_emod_of_nonneg _ h
theorem isLong_400 (y : Int) : isLong (y + 400) = isLong y := by
  unfold isLong
  have h1 : (y + 400).fmod 4 = y.fmod 4 := by rw [fm (by decide), fm (by decide)]; omega
  have h2 : (y + 400).fmod 100 = y.fmod 100 := by rw [fm (by decide), fm (by decide)]; omega
  have h3 : (y + 400).fmod 400 = y.fmod 400 := by rw [fm (by decide), fm (by decide)]; omega
  rw [h1, h2, h3]
def bl (y : Int) : Nat := if isLong y = true then 1 else 0
def cn (y : Int) : Nat → Nat
  | 0 => 0
  | n + 1 => cn y n + bl (y + (n : Int))
theorem cn_shift (y : Int) : ∀ n : Nat, cn y (n + 1) = bl y + cn (y + 1) n
  | 0 => by
    show 0 + bl (y + ((0 : Nat) : Int)) = bl y + 0
    have e : y + ((0 : Nat) : Int) = y := by omega
    rw [e]; omega
  | n + 1 => by
    have ih := cn_shift y n
    show cn y (n + 1) + bl (y + ((n + 1 : Nat) : Int)) = bl y + (cn (y + 1) n + bl (y + 1 + (n : Int)))
    have e : y + ((n + 1 : Nat) : Int) = y + 1 + (n : Int) := by omega
    rw [ih, e]; omega
theorem cn_next (y : Int) : cn (y + 1) 400 = cn y 400 := by
  have h1 := cn_shift y 400
  have h2 : cn y (400 + 1) = cn y 400 + bl (y + ((400 : Nat) : Int)) := rfl
  have h3 : bl (y + ((400 : Nat) : Int)) = bl y := by
    unfold bl
    have e : y + ((400 : Nat) : Int) = y + 400 := rfl
    rw [e, isLong_400]
  omega
theorem cn_up (y : Int) : ∀ n : Nat, cn (y + (n : Int)) 400 = cn y 400
  | 0 => by
    have e : y + ((0 : Nat) : Int) = y := by omega
    rw [e]
  | n + 1 => by
    have e : y + ((n + 1 : Nat) : Int) = (y + (n : Int)) + 1 := by omega
    rw [e, cn_next, cn_up y n]
theorem cn_zero : cn 0 400 = 97 := by decide +kernel
theorem cn_all (y : Int) : cn y 400 = 97 := by
  rcases Int.le_total 0 y with h | h
  · have e := cn_up 0 y.toNat
    have e2 : (0 : Int) + (y.toNat : Int) = y := by omega
    rw [e2, cn_zero] at e
    exact e
  · have e := cn_up y (-y).toNat
    have e2 : y + ((-y).toNat : Int) = 0 := by omega
    rw [e2, cn_zero] at e
    exact e.symm
theorem fold_cn (y : Int) : ∀ n : Nat, (List.foldl (fun l' k' => if isLong (y + k') = true then l' ++ [k'] else if isLong (y + k') = false then l' else l') ([] : List Int) (PySem.W.rangeKs 0 n)).length = cn y n
  | 0 => rfl
  | n + 1 => by
    have e : PySem.W.rangeKs 0 (n + 1) = PySem.W.rangeKs 0 n ++ [0 + (n : Int)] := by
      unfold PySem.W.rangeKs
      rw [List.range_succ, List.map_append]
      rfl
    rw [e, List.foldl_append]
    have ih := fold_cn y n
    generalize List.foldl (fun l' k' => if isLong (y + k') = true then l' ++ [k'] else if isLong (y + k') = false then l' else l') ([] : List Int) (PySem.W.rangeKs 0 n) = L at ih ⊢
    show (if isLong (y + (0 + (n : Int))) = true then L ++ [0 + (n : Int)] else if isLong (y + (0 + (n : Int))) = false then L else L).length = cn y n + bl (y + (n : Int))
    have z : (0 : Int) + (n : Int) = n := by omega
    rw [z]
    unfold bl
    split
    · rw [List.length_append, ih]; rfl
    · split <;> omega
theorem end97 (y : Int) : (((((List.foldl (fun l' k' => if isLong (y + k') = true then l' ++ [k'] else if isLong (y + k') = false then l' else l') ([] : List Int) (PySem.W.rangeKs 0 (400 - 0 : Int).toNat)).length : Nat) : Int) == (97 : Int)) == true) = true := by
  have h := fold_cn y 400
  rw [cn_all] at h
  have e : (400 - 0 : Int).toNat = 400 := rfl
  rw [e, h]
  rfl
theorem len97 (y : Int) : (List.foldl (fun l' k' => if isLong (y + k') = true then l' ++ [k'] else if isLong (y + k') = false then l' else l') ([] : List Int) (PySem.W.rangeKs 0 (400 - 0 : Int).toNat)).length = 97 := by
  have h := fold_cn y 400
  rw [cn_all] at h
  exact h
end My

set_option maxRecDepth 100000 in
set_option maxHeartbeats 8000000 in
theorem PySem.Challenge.cw_fivefields_k11_long_years_holds : PySem.Challenge.rw_fivefields_k11_long_years.Holds := by
  k_with "tree" => simp only [My.isLong, My.yearF]
  k_with "end" => first | (rw [My.len97]; rfl) | (rw [My.len97]; decide) | (rw [My.len97])
  k_with "pyIter ref" => k_search (fun _ => True)
  k_with "call ref" => first | k_call_by "_law_year" My.yearF | k_call_by "is_long" My.isLong | k_call_by "_law_long" My.isLong
  open_k
