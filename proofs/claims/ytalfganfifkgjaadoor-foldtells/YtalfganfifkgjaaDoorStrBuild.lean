/- strings.Builder at this dump: String and utf8.AppendRune by the library's contracts; copyCheck and WriteRune walked here, for the library's own do not lie over this dump's copyCheck. -/
import Derived.Test.YtalfganfifkgjaaDoorProg
import Derived.Shelf.Strings.BuilderRune
namespace Go.Proofs.YtalfganfifkgjaaDoor
open Go.RowKit Go.Shelf

def bren : Ren := ⟨fun | 242 => 20 | 278 => 22 | 169 => 18 | n => n, fun | 0 => 0 | 3 => 3 | 4 => 4 | 5 => 5 | 9 => 9 | 21 => 21 | 37 => 31 | 46 => 52 | 51 => 51 | 70 => 39 | 72 => 41 | 127 => 48 | n => n, fun | n => n⟩
theorem blays242 : Lays.n242 Tryd.prog bren := {
  mixed := by kernel_rfl
  f242 := Tryd.func20.trans (congrArg some (by kernel_rfl))
  f278 := Tryd.func22.trans (congrArg some (by kernel_rfl))
  t4 := Tryd.underlying4
  a4 := Tryd.isAgg4
  z4 := Tryd.sizeOf4
  v4 := Tryd.zeroValue4
  t5 := Tryd.underlying5
  a5 := Tryd.isAgg5
  z5 := Tryd.sizeOf5
  v5 := Tryd.zeroValue5
  t21 := Tryd.underlying21
  a21 := Tryd.isAgg21
  z21 := Tryd.sizeOf21
  v21 := Tryd.zeroValue21
  t37 := Tryd.underlying31
  a37 := Tryd.isAgg31
  z37 := Tryd.sizeOf31
  v37 := Tryd.zeroValue31
  t46 := Tryd.underlying52
  a46 := Tryd.isAgg52
  z46 := Tryd.sizeOf52
  v46 := Tryd.zeroValue52
  t51 := Tryd.underlying51
  a51 := Tryd.isAgg51
  z51 := Tryd.sizeOf51
  v51 := Tryd.zeroValue51 }
theorem blays169 : Lays.n169 Tryd.prog bren := {
  mixed := by kernel_rfl
  f169 := Tryd.func18.trans (congrArg some (by kernel_rfl))
  t0 := Tryd.underlying0
  a0 := Tryd.isAgg0
  z0 := Tryd.sizeOf0
  v0 := Tryd.zeroValue0
  t3 := Tryd.underlying3
  a3 := Tryd.isAgg3
  z3 := Tryd.sizeOf3
  v3 := Tryd.zeroValue3
  t9 := Tryd.underlying9
  a9 := Tryd.isAgg9
  z9 := Tryd.sizeOf9
  v9 := Tryd.zeroValue9
  t37 := Tryd.underlying31
  a37 := Tryd.isAgg31
  z37 := Tryd.sizeOf31
  v37 := Tryd.zeroValue31
  t70 := Tryd.underlying39
  a70 := Tryd.isAgg39
  z70 := Tryd.sizeOf39
  v70 := Tryd.zeroValue39
  t72 := Tryd.underlying41
  a72 := Tryd.isAgg41
  z72 := Tryd.sizeOf41
  v72 := Tryd.zeroValue41
  t127 := Tryd.underlying48
  a127 := Tryd.isAgg48
  z127 := Tryd.sizeOf48
  v127 := Tryd.zeroValue48 }
theorem bextra : Builder.Extra Tryd.prog bren := {
  sizeBuilder := by kernel_rfl
  liesBuilder := by kernel_rfl
  t5 := Tryd.underlying5
  a5 := Tryd.isAgg5
  z5 := Tryd.sizeOf5
  v5 := Tryd.zeroValue5
  infoByte := by kernel_rfl
  cellsByte := by kernel_rfl
  sizeByte := by kernel_rfl
  neB5 := by decide }

theorem bstring_any (B b : Nat) (l : List UInt8) (w : World) (h : Lib.IsBuilderF 41 5 B b (Lib.byteCells l) w) (hBw : B ≤ w.heap.size) :
    Calls Tryd.prog 18 #[.pointer (some ⟨b, 0, none⟩)] w fun e w' => e = .returned (.string ⟨l.toArray⟩) ∧ (Lib.IsBuilderF 41 5 B b (Lib.byteCells l) w' ∧ Below B w w' ∧ Lib.OthersKept 5 (some b) w w') :=
  Any.Builder_String_any_k blays169 bextra B b l w h hBw

theorem bappend_any (B : Nat) (v : Value) (n : Nat) (xs : List Value) (r : Int) (hr0 : -2147483648 ≤ r) (hr1 : r ≤ 2147483647) (w : World) (hown : w.ownsRowF B 5 1 v n xs) (hlen : n + 4 ≤ 140737488355328) (hBw : B ≤ w.heap.size) :
    Calls Tryd.prog 20 #[v, .int .i32 r] w fun e w' => ∃ v', e = .returned v' ∧ w'.ownsRowF B 5 1 v' (n + (Lib.runeCells r).length) (xs ++ Lib.runeCells r) ∧ ∃ o, (w.alloc o).grownBy w' v.ownBlock :=
  Any.utf8_AppendRune_own blays242 bextra B v n xs r hr0 hr1 w hown hlen hBw

/-- What a builder is made of. -/
theorem builder_open {T e : TypeId} {B b : Nat} {p : Value} {bs : List Value} {w : World} (h : Lib.BuilderAtF T e B b p bs w) :
    ∃ ao cap, Hid (w.heap[b]? = some (.cells #[p, .slice ao bs.length cap] T (0, 0))) ∧ w.ownsRowF B e 1 (.slice ao bs.length cap) bs.length bs ∧ (Value.slice ao bs.length cap).ownBlock ≠ some b ∧
      w.cell? ⟨b, 0, none⟩ = some p ∧ w.cell? ⟨b, 1, none⟩ = some (.slice ao bs.length cap) ∧ b < w.heap.size := by
  obtain ⟨_, v, hk, ho, hn⟩ := h
  have e : ∃ ao cap, v = .slice ao bs.length cap := by
    rcases ho.2 with ⟨rfl, hz⟩ | ⟨g, cap, _, _, rfl, _⟩
    · rw [hz]; exact ⟨_, _, rfl⟩
    · exact ⟨_, _, rfl⟩
  obtain ⟨ao, cap, rfl⟩ := e
  exact ⟨ao, cap, hk, ho, hn, (Lib.cell_of_heap hk 0).trans rfl, (Lib.cell_of_heap hk 1).trans rfl, (Array.getElem?_eq_some_iff.1 hk).1⟩

set_option maxHeartbeats 1000000 in
set_option maxRecDepth 100000 in
/-- copyCheck: a builder that was not written bears no address, one that was its own. -/
theorem bcheck_any (B b : Nat) (bs : List Value) (w : World) (h : Lib.IsBuilderF 41 5 B b bs w) :
    Calls Tryd.prog 19 #[.pointer (some ⟨b, 0, none⟩)] w fun e w' => e = .returned (.tuple #[]) ∧ Lib.BuilderAtF 41 5 B b (.pointer (some ⟨b, 0, none⟩)) bs w' ∧ Below B w w' ∧ Lib.OthersKept 5 (some b) w w' := by
  obtain ⟨j, hj, hjs⟩ := Option.map_eq_some_iff.1 bextra.sizeBuilder
  rcases h with h | h
  · have hg : Hid _ := h.used (.pointer (some ⟨b, 0, none⟩))
    have hB := (Below.refl B w).setCell (p := ⟨b, 0, none⟩) h.1 (.pointer (some ⟨b, 0, none⟩))
    have hO := (Lib.OthersKept.refl 5 (some b) w).setCell ⟨b, 0, none⟩ rfl (.pointer (some ⟨b, 0, none⟩))
    have c0 := h.cell0
    have f0 := h.frozen0
    have hs := h.shape
    have u1 := Lib.run_to_unsafe (P := Tryd.prog) w ⟨b, 0, none⟩ Tryd.underlying39 Tryd.underlying49 hj (by rw [hjs]; decide) hs (Nat.two_pos)
    have u2 := Lib.run_from_unsafe (P := Tryd.prog) w ⟨b, 0, none⟩ Tryd.underlying49 Tryd.underlying39 hj hs bextra.liesBuilder
    have u3 := fun W => run_callFunc_extern (P := Tryd.prog) Tryd.func21 (by kernel_rfl) (by kernel_rfl) (by kernel_rfl) (e := Extern.AbiNoEscape.same) (by kernel_rfl) #[.pointer (some ⟨b, 0, none⟩)] W
    simp only [Lib.run_noEscape, Result.andThen] at u3
    clear h hj hjs
    go_enter Tryd.func19, Tryd.ntmps19
    go_wp2
    go_end0
    exact ⟨rfl, hg.out, hB, hO⟩
  · have c0 := h.cell0
    have u0 := Lib.run_neq_ptr_same (P := Tryd.prog) w ⟨b, 0, none⟩ Tryd.underlying39 hj
    go_enter Tryd.func19, Tryd.ntmps19
    go_wp2
    go_end0
    exact ⟨rfl, h, Below.refl B _, Lib.OthersKept.refl _ _ _⟩

/-- The builder behind an append onto its bytes: what is there to be stored into, and that it is one again. -/
theorem builder_grown {T e : TypeId} {B b n : Nat} {p : Value} {cs : List Value} {w w' : World} {o : Obj} {ao : Option Addr} {cap : Nat} (hB : B ≤ b) (hk : w.heap[b]? = some (.cells #[p, .slice ao n cap] T (0, 0)))
    (hn : (Value.slice ao n cap).ownBlock ≠ some b) (hg : (w.alloc o).grownBy w' (Value.slice ao n cap).ownBlock) (hne : T ≠ e) {v : Value} {m : Nat} (ho : w'.ownsRowF B e 1 v m cs) (hm : m = cs.length) :
    w'.cell? ⟨b, 0, none⟩ = some p ∧ w'.cell? ⟨b, 1, none⟩ = some (.slice ao n cap) ∧ w'.frozen? ⟨b, 1, none⟩ = false ∧ Hid (Lib.BuilderAtF T e B b p cs (w'.setCell ⟨b, 1, none⟩ v)) := by
  have hlt : b < w.heap.size := (Array.getElem?_eq_some_iff.1 hk).1
  have hk' : w'.heap[b]? = some (.cells #[p, .slice ao n cap] T (0, 0)) :=
    (hg.block b (by rw [World.size_alloc]; omega) (Ne.symm hn)).trans ((Lib.alloc_old w o b hlt).trans hk)
  subst hm
  exact ⟨(Lib.cell_of_heap hk' 0).trans rfl, (Lib.cell_of_heap hk' 1).trans rfl, Lib.frozen_of_heap hk' 1, Lib.BuilderAtF.put hB hk' ho hne⟩

set_option maxHeartbeats 4000000 in
set_option maxRecDepth 100000 in
theorem bwrite_any (B b : Nat) (bs : List Value) (r : Int) (hr0 : -2147483648 ≤ r) (hr1 : r ≤ 2147483647) (w : World) (h : Lib.IsBuilderF 41 5 B b bs w) (hlen : bs.length + 4 ≤ 140737488355328) (hBw : B ≤ w.heap.size) :
    Calls Tryd.prog 17 #[.pointer (some ⟨b, 0, none⟩), .int .i32 r] w fun e w' => e = .returned (.tuple #[.int .i64 (Lib.runeCells r).length, .nilIface]) ∧ Lib.BuilderAtF 41 5 B b (.pointer (some ⟨b, 0, none⟩)) (bs ++ Lib.runeCells r) w' ∧ Below B w w' ∧ Lib.OthersKept 5 (some b) w w' := by
  have hk4 := Lib.runeCells_le r
  go_enter Tryd.func17, Tryd.ntmps17
  go_wp2_with fail
  refine (bcheck_any B b bs _ h).mono ?_
  rintro e w1 ⟨rfl, h1, hb1, hk1⟩
  have hs1 := hb1.size
  have hB := h1.1
  obtain ⟨ao, cap, hbk, hown, hne, c0, c1, hlt⟩ := builder_open h1
  clear h1
  go_wp2_with fail
  refine (bappend_any B _ bs.length bs r hr0 hr1 _ hown hlen (by omega)).mono ?_
  rintro e w2 ⟨v', rfl, hown', o, hgrow⟩
  obtain ⟨d0, d1, f1, hput⟩ := builder_grown hB hbk.out hne hgrow (by decide) hown' (by simp)
  have hB2 := (hb1.alloc (by omega) o).grown hgrow (by rw [World.size_alloc]; omega) (fun k hk => (hown.lt k hk).1)
  have hO2 := (hk1.alloc o).grown hgrow (Lib.ownsRowF_kind (hown.alloc o))
  obtain ⟨g, cap', rfl⟩ : ∃ g cap', v' = .slice (some ⟨g, 0, none⟩) (bs.length + (Lib.runeCells r).length) cap' := by
    rcases hown'.2 with ⟨_, hz⟩ | ⟨g, cap', _, _, hv, _⟩
    · omega
    · exact ⟨g, cap', hv⟩
  have hsub : ((bs.length : Int) + ((Lib.runeCells r).length : Int) - (bs.length : Int)) = ((Lib.runeCells r).length : Int) := by omega
  clear c0 c1 hbk hb1 hk1 hown hown' hgrow
  go_wp2
  go_ret2
  exact ⟨by simp, hput.out, hB2.setCell (p := ⟨b, 1, none⟩) hB _, hO2.setCell ⟨b, 1, none⟩ rfl _⟩
#print axioms bwrite_any
#print axioms bstring_any
end Go.Proofs.YtalfganfifkgjaaDoor
