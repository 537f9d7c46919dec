/- What the runs' statements lean on. -/
import Derived.Test.YtgnhnhachhfafaaRunDecode
import Derived.Test.YtgnhnhachhfafaaEnSame
namespace Go.Proofs.Ytgnhnhachhfafaa
open Go.RowKit
set_option linter.unusedVariables false
set_option linter.unusedSimpArgs false
theorem law_run {es : List En} {s : Nat} (hf : es.length ≤ 200) (hm : mayE es = 0) (h1 : 1 ≤ s) (h2 : s ≤ 255) : encR es s = (runL es s, 0) ∧ (runL es s).length ≤ 61900 ∧ isBytes (runL es s) ∧ decL (runL es s) = (es, 0) := by
  have hok := run_ok (l := es) (s := s) ⟨h1, h2, hm⟩ (by omega)
  have hmax := run_len_le hok
  exact ⟨enc_is ⟨h1, h2, hm⟩, by omega, recs_bytes _ (run_rows hok), dec_back ⟨h1, h2, hm⟩ (by omega)⟩
theorem run_inj {es : List En} {s t : Nat} (hf : es.length ≤ 200) (hm : mayE es = 0) (h1 : 1 ≤ s) (h2 : s ≤ 255) (k1 : 1 ≤ t) (k2 : t ≤ 255) (h : runL es s = runL es t) : s = t :=
  (run_free (X := []) (Y := []) (run_ok ⟨h1, h2, hm⟩ (by omega)) (run_ok ⟨k1, k2, hm⟩ (by omega)) (by rw [h])).2.1
theorem u8_nat {a : Int} (h : (Lit.int .u8 a).wf = true) : ∃ n : Nat, a = n ∧ n ≤ 255 := by
  have := bounds_u8 h
  obtain ⟨n, rfl⟩ := Int.eq_ofNat_of_zero_le this.1
  exact ⟨n, rfl, by omega⟩
end Go.Proofs.Ytgnhnhachhfafaa
