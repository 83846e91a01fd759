import PyProof.Rows.All
import Wide.All
import OpenK.AllK
import Wide.FinOn
import PySem.Challenge.RW_fivefields_k15_weekdays
open PySem PySem.W PyProof.Rows
set_option Elab.async false
namespace My
open PySem PySem.W PySem.Calls PyProof.Rows
section
variable {prog : Program} {w : World} {A : Around} {E : Value → Shared → Prop} {s : Shared} {x y : Int} {t u : Tok} {Q : Value → Shared → Prop}
theorem pow20 (h : Q (.int 100000000000000000000 s.toks) { s with toks := s.toks + 1 }) : wpAny (model prog w) A (binaryOp .Pow (.int 10 t) (.int 20 u)) Q E s :=
  PyProof.Rows.pow_int_small (by decide) (by decide) (by decide) (by
    have e : (10 : Int) ^ (20 : Int).toNat = 100000000000000000000 := by decide +kernel
    rw [e]; exact h)
theorem pow50 (h : Q (.int 100000000000000000000000000000000000000000000000000 s.toks) { s with toks := s.toks + 1 }) : wpAny (model prog w) A (binaryOp .Pow (.int 10 t) (.int 50 u)) Q E s :=
  PyProof.Rows.pow_int_small (by decide) (by decide) (by decide) (by
    have e : (10 : Int) ^ (50 : Int).toNat = 100000000000000000000000000000000000000000000000000 := by decide +kernel
    rw [e]; exact h)
theorem pow51 (h : Q (.int 1000000000000000000000000000000000000000000000000000 s.toks) { s with toks := s.toks + 1 }) : wpAny (model prog w) A (binaryOp .Pow (.int 10 t) (.int 51 u)) Q E s :=
  PyProof.Rows.pow_int_small (by decide) (by decide) (by decide) (by
    have e : (10 : Int) ^ (51 : Int).toNat = 1000000000000000000000000000000000000000000000000000 := by decide +kernel
    rw [e]; exact h)
theorem pow54 (h : Q (.int 1000000000000000000000000000000000000000000000000000000 s.toks) { s with toks := s.toks + 1 }) : wpAny (model prog w) A (binaryOp .Pow (.int 10 t) (.int 54 u)) Q E s :=
  PyProof.Rows.pow_int_small (by decide) (by decide) (by decide) (by
    have e : (10 : Int) ^ (54 : Int).toNat = 1000000000000000000000000000000000000000000000000000000 := by decide +kernel
    rw [e]; exact h)
theorem pow56 (h : Q (.int 100000000000000000000000000000000000000000000000000000000 s.toks) { s with toks := s.toks + 1 }) : wpAny (model prog w) A (binaryOp .Pow (.int 10 t) (.int 56 u)) Q E s :=
  PyProof.Rows.pow_int_small (by decide) (by decide) (by decide) (by
    have e : (10 : Int) ^ (56 : Int).toNat = 100000000000000000000000000000000000000000000000000000000 := by decide +kernel
    rw [e]; exact h)
theorem pow57 (h : Q (.int 1000000000000000000000000000000000000000000000000000000000 s.toks) { s with toks := s.toks + 1 }) : wpAny (model prog w) A (binaryOp .Pow (.int 10 t) (.int 57 u)) Q E s :=
  PyProof.Rows.pow_int_small (by decide) (by decide) (by decide) (by
    have e : (10 : Int) ^ (57 : Int).toNat = 1000000000000000000000000000000000000000000000000000000000 := by decide +kernel
    rw [e]; exact h)
theorem pow58 (h : Q (.int 10000000000000000000000000000000000000000000000000000000000 s.toks) { s with toks := s.toks + 1 }) : wpAny (model prog w) A (binaryOp .Pow (.int 10 t) (.int 58 u)) Q E s :=
  PyProof.Rows.pow_int_small (by decide) (by decide) (by decide) (by
    have e : (10 : Int) ^ (58 : Int).toNat = 10000000000000000000000000000000000000000000000000000000000 := by decide +kernel
    rw [e]; exact h)
theorem pow59 (h : Q (.int 100000000000000000000000000000000000000000000000000000000000 s.toks) { s with toks := s.toks + 1 }) : wpAny (model prog w) A (binaryOp .Pow (.int 10 t) (.int 59 u)) Q E s :=
  PyProof.Rows.pow_int_small (by decide) (by decide) (by decide) (by
    have e : (10 : Int) ^ (59 : Int).toNat = 100000000000000000000000000000000000000000000000000000000000 := by decide +kernel
    rw [e]; exact h)
theorem pow60 (h : Q (.int 1000000000000000000000000000000000000000000000000000000000000 s.toks) { s with toks := s.toks + 1 }) : wpAny (model prog w) A (binaryOp .Pow (.int 10 t) (.int 60 u)) Q E s :=
  PyProof.Rows.pow_int_small (by decide) (by decide) (by decide) (by
    have e : (10 : Int) ^ (60 : Int).toNat = 1000000000000000000000000000000000000000000000000000000000000 := by decide +kernel
    rw [e]; exact h)
theorem mod_big (hy : 10000000000000000 < y) (h : ∀ r, 0 ≤ r → r < y → Q (.int r s.toks) { s with toks := s.toks + 1 }) :
    wpAny (model prog w) A (binaryOp .Mod (.int x t) (.int y u)) Q E s :=
  PyProof.Rows.mod_int (by omega) (h _ (Int.fmod_nonneg_of_pos x (by omega)) (Int.fmod_lt_of_pos x (by omega)))
end
end My
local macro_rules | `(tactic| walk_at "binaryOp Pow int int") => `(tactic| (k_here; (with_reducible refine' My.pow20 ?_); (try dsimp only)))
local macro_rules | `(tactic| walk_at "binaryOp Pow int int") => `(tactic| (k_here; (with_reducible refine' My.pow50 ?_); (try dsimp only)))
local macro_rules | `(tactic| walk_at "binaryOp Pow int int") => `(tactic| (k_here; (with_reducible refine' My.pow51 ?_); (try dsimp only)))
local macro_rules | `(tactic| walk_at "binaryOp Pow int int") => `(tactic| (k_here; (with_reducible refine' My.pow54 ?_); (try dsimp only)))
local macro_rules | `(tactic| walk_at "binaryOp Pow int int") => `(tactic| (k_here; (with_reducible refine' My.pow56 ?_); (try dsimp only)))
local macro_rules | `(tactic| walk_at "binaryOp Pow int int") => `(tactic| (k_here; (with_reducible refine' My.pow57 ?_); (try dsimp only)))
local macro_rules | `(tactic| walk_at "binaryOp Pow int int") => `(tactic| (k_here; (with_reducible refine' My.pow58 ?_); (try dsimp only)))
local macro_rules | `(tactic| walk_at "binaryOp Pow int int") => `(tactic| (k_here; (with_reducible refine' My.pow59 ?_); (try dsimp only)))
local macro_rules | `(tactic| walk_at "binaryOp Pow int int") => `(tactic| (k_here; (with_reducible refine' My.pow60 ?_); (try dsimp only)))
local macro_rules | `(tactic| walk_at "binaryOp Add int int") => `(tactic| (k_here; (with_reducible refine' PyProof.Rows.add_int ?_); (try dsimp only)))
local macro_rules | `(tactic| walk_at "binaryOp Sub int int") => `(tactic| (k_here; (with_reducible refine' PyProof.Rows.sub_int ?_); (try dsimp only)))
local macro_rules | `(tactic| walk_at "binaryOp Mod int int") => `(tactic| (k_here; (with_reducible refine' My.mod_big ?k1 ?_); (case k1 => k_dflt decide); intro r' h0' h1'; (try dsimp only)))

set_option maxRecDepth 100000 in
set_option maxHeartbeats 8000000 in
theorem PySem.Challenge.cw_fivefields_k15_weekdays_holds : PySem.Challenge.rw_fivefields_k15_weekdays.Holds := by
  k_with "pyIter ref" => k_search (fun _ => True)
  open_k
