/- Automata with whole numbers as they lie in memory: what they take, what Build, Has, May and Words tell. -/
import Derived.Test.YtkcledkfgmdcgaaDawMore
import Derived.Test.YtkcledkfgmdcgaaStates
namespace Go.Proofs.Ytkcledkfgmdcgaa
open Go.RowKit
set_option linter.unusedVariables false
set_option linter.unusedSimpArgs false

def zE (es : List (UInt8 × Nat)) : List (UInt8 × Int) := es.map fun e => (e.1, (e.2 : Int))
def zA (A : List Stt) : List StZ := A.map fun s => (s.1, zE s.2)
theorem zA_len (A : List Stt) : (zA A).length = A.length := by simp [zA]
theorem zE_len (A : List (UInt8 × Nat)) : (zE A).length = A.length := by simp [zE]
theorem zA_at {A : List Stt} {i : Nat} {s : Stt} (h : A[i]? = some s) : (zA A)[i]? = some (s.1, zE s.2) := by simp [zA, h]
theorem zE_at {A : List (UInt8 × Nat)} {i : Nat} {s : UInt8 × Nat} (h : A[i]? = some s) : (zE A)[i]? = some (s.1, (s.2 : Int)) := by simp [zE, h]
theorem zE_inj : ∀ {x y : List (UInt8 × Nat)}, zE x = zE y → x = y
  | [], [], _ => rfl
  | [], _ :: _, h => by simp [zE] at h
  | _ :: _, [], h => by simp [zE] at h
  | a :: x, b :: y, h => by
    have h' : ((a.1, (a.2 : Int)) :: zE x) = ((b.1, (b.2 : Int)) :: zE y) := h
    simp only [List.cons.injEq, Prod.mk.injEq] at h'
    rw [zE_inj h'.2, Prod.ext h'.1.1 (by omega : a.2 = b.2)]
theorem zS_inj {a b : Stt} (h : ((a.1, zE a.2) : StZ) = (b.1, zE b.2)) : a = b := by
  simp only [Prod.mk.injEq] at h
  exact Prod.ext h.1 (zE_inj h.2)
/-- Where an edge of a byte leads. -/
def stepZ : List (UInt8 × Int) → UInt8 → Option Int
  | [], _ => none
  | e :: es, c => if e.1 = c then some e.2 else stepZ es c
def atZ (A : List StZ) (n : Int) : Option StZ := if n < 0 then none else A[n.toNat]?
def hasZn (A : List StZ) : Int → Wd → Bool
  | n, [] => match atZ A n with
    | some s => s.1
    | none => false
  | n, c :: w => match atZ A n with
    | some s => match stepZ s.2 c with
      | some m => hasZn A m w
      | none => false
    | none => false
def hasZ (A : List StZ) (k : Wd) : Bool := hasZn A ((A.length : Int) - 1) k
theorem step_z : ∀ (es : List (UInt8 × Nat)) (c : UInt8), stepZ (zE es) c = (stepE es c).map fun (n : Nat) => (n : Int)
  | [], c => rfl
  | e :: es, c => by
    show (if e.1 = c then some (e.2 : Int) else stepZ (zE es) c) = _
    rw [step_z es c, stepE]
    split <;> rfl
theorem at_z {A : List Stt} {n : Nat} {s : Stt} (h : A[n]? = some s) : atZ (zA A) (n : Nat) = some (s.1, zE s.2) := by
  unfold atZ
  rw [if_neg (by omega), Int.toNat_natCast, zA_at h]
theorem has_z {A : List Stt} (h : GoodS A) : ∀ (w : Wd) (n : Nat), n < A.length → hasZn (zA A) (n : Nat) w = hasS A n w
  | [], n, hn => by
    have h1 := List.getElem?_eq_getElem hn
    rw [hasS_at h1]
    simp only [hasZn, at_z h1]
  | c :: w, n, hn => by
    have h1 := List.getElem?_eq_getElem hn
    rw [hasS_at h1]
    simp only [hasZn, at_z h1, hasE, step_z]
    cases hs : stepE (A[n]).2 c with
    | none => rfl
    | some m =>
      simp only [Option.map_some]
      exact has_z h w m (Nat.lt_trans (h.low n _ h1 _ (step_mem hs)) hn)
theorem built_has (l : List Wd) (w : Wd) : hasZ (zA (buildL l)) w = decide (w ∈ l) := by
  unfold hasZ
  have h1 := (build_len l).1
  rw [zA_len, show ((buildL l).length : Int) - 1 = (((buildL l).length - 1 : Nat) : Int) by omega, has_z (build_good l) w _ (by omega), build_has]

instance (l : List Wd) : Decidable (RiseW l) := by unfold RiseW; infer_instance
/-- What Build tells. -/
def buildR (zs : List Wd) : List StZ × Nat := if [] ∈ zs then ([], 1) else if RiseW zs then (zA (buildL zs), 0) else ([], 9)
def BuildOut (w : World) (q : List StZ × Nat) (e : Ending) (w' : World) : Prop :=
  ∃ ag m c, e = .returned (.tuple #[.slice ag m c, .int .i64 (q.2 : Nat)]) ∧ ReadsA w' ag m c q.1 ∧ Below w.heap.size w w'
/-- What Words tells of what was built. -/
def wordsR (zs : List Wd) (most : Int) : List Wd × Nat := if most < 0 ∨ 100000 < most then ([], 1) else if most < zs.length then ([], 6) else (zs, 0)
def WordsOut (w : World) (q : List Wd × Nat) (e : Ending) (w' : World) : Prop :=
  ∃ ag m c, e = .returned (.tuple #[.slice ag m c, .int .i64 (q.2 : Nat)]) ∧ Reads w' ag m c (q.1.map strV) ∧ Below w.heap.size w w'
end Go.Proofs.Ytkcledkfgmdcgaa
