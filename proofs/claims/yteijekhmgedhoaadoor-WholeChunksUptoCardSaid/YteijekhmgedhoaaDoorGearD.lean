/- The walks of the laws' own same and lengths; chunks in memory. -/
import Derived.Test.YteijekhmgedhoaaDoorGearC
import Derived.Test.YteijekhmgedhoaaDoorLists
import Derived.Deep.QuietTactic
import Derived.BigQuiet
namespace Go.Proofs.YteijekhmgedhoaaDoor
open Go.RowKit

theorem iv_at {l : List Nat} {j : Nat} (h : j < l.length) : (iv l)[j]? = some (.int .i64 (l[j] : Nat)) := by unfold iv; rw [List.getElem?_map, List.getElem?_eq_getElem h]; rfl
theorem eq_of_at {a b : List Nat} (hl : a.length = b.length) (h : ∀ j (h1 : j < a.length) (h2 : j < b.length), a[j] = b[j]) : a = b := List.ext_getElem hl h
/-- The first elements of two lists are alike. -/
def upto (a b : List Nat) (k : Nat) : Prop := ∀ j (h1 : j < a.length) (h2 : j < b.length), j < k → a[j] = b[j]
end Go.Proofs.YteijekhmgedhoaaDoor
