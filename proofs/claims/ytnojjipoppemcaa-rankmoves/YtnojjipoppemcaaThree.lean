/- Three own rows of one type, in blocks of their own. -/
import Derived.Test.YtnojjipoppemcaaFound
namespace Go.Proofs.Ytnojjipoppemcaa
open Go.RowKit
set_option linter.unusedVariables false

theorem Try.infoU64 : (Try.prog.info? 23).map (fun i => (i.zero, i.size, i.bytes)) = some (some (.int .u64 0), 1, 8) := by kernel_rfl
structure Three (e : TypeId) (W : World) (base : Nat) (va vb vc : Value) (na nb nc : Nat) (xa xb xc : List Value) : Prop where
  a : W.ownsRow base e 1 va na xa
  b : W.ownsRow base e 1 vb nb xb
  c : W.ownsRow base e 1 vc nc xc
  ab : Off va vb
  bc : Off vb vc
  ca : Off vc va
theorem Three.rot {e : TypeId} {W : World} {base : Nat} {va vb vc : Value} {na nb nc : Nat} {xa xb xc : List Value} (h : Three e W base va vb vc na nb nc xa xb xc) : Three e W base vb vc va nb nc na xb xc xa :=
  ⟨h.b, h.c, h.a, h.bc, h.ca, h.ab⟩
theorem Three.alloc {e : TypeId} {W : World} {base : Nat} {va vb vc : Value} {na nb nc : Nat} {xa xb xc : List Value} (h : Three e W base va vb vc na nb nc xa xb xc) (o : Obj) : Three e (W.alloc o) base va vb vc na nb nc xa xb xc :=
  ⟨h.a.alloc o, h.b.alloc o, h.c.alloc o, h.ab, h.bc, h.ca⟩
theorem Three.put {e : TypeId} {W w' : World} {base B : Nat} {va vb vc va' : Value} {na nb nc na' : Nat} {xa xb xc xa' : List Value} (h : Three e W base va vb vc na nb nc xa xb xc) (ho : w'.ownsRow base e 1 va' na' xa') (hg : W.grownBy w' va.ownBlock)
    (hw : va'.ownBlock = va.ownBlock ∨ ∃ k, va'.ownBlock = some k ∧ B ≤ k) (hB : W.heap.size ≤ B) : Three e w' base va' vb vc na' nb nc xa' xb xc :=
  ⟨ho, own_off h.b h.ab.symm hg, own_off h.c h.ca hg, (off_append h.b h.ab.symm hw hB).symm, h.bc, off_append h.c h.ca hw hB⟩
end Go.Proofs.Ytnojjipoppemcaa
