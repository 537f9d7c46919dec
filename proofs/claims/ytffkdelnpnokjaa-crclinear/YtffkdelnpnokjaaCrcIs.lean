/- The sums of slices that were there, as facts that a walk picks by the argument. -/
import Derived.Test.YtffkdelnpnokjaaCrcMore
import Derived.Test.YtffkdelnpnokjaaCuts
namespace Go.Proofs.Ytffkdelnpnokjaa
open Go.RowKit

structure OfIs (w0 : World) (v : Value) (s : Nat) : Prop where
  out : ∀ W, Below w0.heap.size w0 W → Calls Try.prog 9 #[v] W fun e w' => e = .returned (.int .u32 s) ∧ Below W.heap.size W w'
structure MoreIs (w0 : World) (c : Int) (v : Value) (s : Nat) : Prop where
  out : ∀ W, Below w0.heap.size w0 W → Calls Try.prog 11 #[.int .u32 c, v] W fun e w' => e = .returned (.int .u32 s) ∧ Below W.heap.size W w'

theorem ofIs {w0 : World} {ao : Option Addr} {len cap : Nat} {zs : List Int} (hr : Reads w0 ao len cap (zs.map (.int .u8))) (h8 : isBytes zs) : OfIs w0 (.slice ao len cap) (ofL zs) :=
  ⟨fun _ hW => of_any _ _ _ _ _ (hr.later hW (Nat.le_refl _)) h8⟩
theorem moreIs {w0 : World} {ao : Option Addr} {len cap : Nat} {zs : List Int} {c : Nat} (hc : c < 4294967296) (hr : Reads w0 ao len cap (zs.map (.int .u8))) (h8 : isBytes zs) : MoreIs w0 c (.slice ao len cap) (moreL c zs) :=
  ⟨fun _ hW => more_any _ _ _ _ _ _ hc (hr.later hW (Nat.le_refl _)) h8⟩
end Go.Proofs.Ytffkdelnpnokjaa
