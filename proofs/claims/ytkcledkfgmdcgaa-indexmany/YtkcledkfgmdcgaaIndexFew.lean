/- Counts, Of and Word of what few words were built to. -/
import Derived.Test.YtkcledkfgmdcgaaIndexCode
namespace Go.Proofs.Ytkcledkfgmdcgaa
open Go.RowKit
set_option linter.unusedVariables false

theorem built_small {zs : List Wd} (hs : (zs.map List.length).sum ≤ 1000000) : (buildL zs).length ≤ 2000000 := by have := (build_len zs).2; omega
theorem icounts_any {w : World} {ao : Option Addr} {len cap : Nat} {zs : List Wd} (h : ReadsA w ao len cap (zA (buildL zs))) (hne : [] ∉ zs) (hr : RiseW zs) (hs : (zs.map List.length).sum ≤ 1000000) :
    Calls Try.prog 12 #[.slice ao len cap] w fun e w' => ∃ ag m c, e = .returned (.tuple #[.slice ag m c, .int .i64 0]) ∧ Reads w' ag m c (zN (countsL (buildL zs))) ∧ Below w.heap.size w w' := by
  have := icounts_gen h hne hr (Nat.le_trans (built_small hs) (by decide))
  rwa [counts_few hr hne hs] at this
theorem iof_any {w : World} {ao : Option Addr} {len cap : Nat} {zs : List Wd} (h : ReadsA w ao len cap (zA (buildL zs))) (hne : [] ∉ zs) (hr : RiseW zs) (hs : (zs.map List.length).sum ≤ 1000000) (k : Wd) (hk : k.length ≤ 140737488351232) :
    Calls Try.prog 14 #[.slice ao len cap, strV k] w fun e w' => e = .returned (.tuple #[.int .i64 ((placeR zs k).1 : Nat), .bool (placeR zs k).2]) ∧ Below w.heap.size w w' := by
  have := iof_gen h hne hr (Nat.le_trans (built_small hs) (by decide)) k hk
  rw [counts_few hr hne hs] at this
  simpa using this
theorem iword_any {w : World} {ao : Option Addr} {len cap : Nat} {zs : List Wd} (h : ReadsA w ao len cap (zA (buildL zs))) (hne : [] ∉ zs) (hr : RiseW zs) (hs : (zs.map List.length).sum ≤ 1000000) (n : Int) (hn0 : -9223372036854775808 ≤ n) (hn1 : n ≤ 9223372036854775807) :
    Calls Try.prog 16 #[.slice ao len cap, .int .i64 n] w fun e w' => e = .returned (.tuple #[strV (wordR zs n).1, .bool (wordR zs n).2]) ∧ Below w.heap.size w w' := by
  have := iword_gen h hne hr (Nat.le_trans (built_small hs) (by decide)) n hn0 hn1
  rw [counts_few hr hne hs] at this
  simpa using this
end Go.Proofs.Ytkcledkfgmdcgaa
