/- Rows that a call made: kept by calls, and by appends onto rows of another element's type; slices cut at both ends; rows of own rows. -/
import Derived.Test.YtgnhnhachhfafaaCuts
import Derived.Test.YtgnhnhachhfafaaRows2
namespace Go.Proofs.Ytgnhnhachhfafaa
open Go.RowKit

theorem own_later {w w' : World} {base e n B : Nat} {v : Value} {xs : List Value} (h : w.ownsRow base e 1 v n xs) (hb : Below B w w') (hB : w.heap.size ≤ B) : w'.ownsRow base e 1 v n xs := by
  refine ⟨h.1, ?_⟩
  rcases h.2 with hn | ⟨g, cap, cur, rfl, hbb, hgg, rest⟩
  · exact .inl hn
  · refine .inr ⟨g, cap, cur, rfl, hbb, ?_, rest⟩
    rw [hb.block g (by have := (Array.getElem?_eq_some_iff.1 hgg).1; omega)]
    exact hgg

theorem own_mono {w : World} {base base' e n : Nat} {v : Value} {xs : List Value} (h : w.ownsRow base e 1 v n xs) (hb : base' ≤ base) : w.ownsRow base' e 1 v n xs :=
  ⟨h.1, h.2.imp id fun ⟨g, cap, cur, h1, h2, h3⟩ => ⟨g, cap, cur, h1, Nat.le_trans hb h2, h3⟩⟩

/-- Rows of unlike element types lie apart. -/
theorem own_apart {w w' : World} {base base' e e' n n' : Nat} {v v' : Value} {xs xs' : List Value} (h : w.ownsRow base e 1 v n xs) (h' : w.ownsRow base' e' 1 v' n' xs') (hne : e ≠ e') (hg : w.grownBy w' v'.ownBlock) : w'.ownsRow base e 1 v n xs := by
  refine h.kept hg ?_
  rcases h.2 with ⟨rfl, _⟩ | ⟨g, cap, cur, rfl, _, hgg, _⟩
  · exact .inl rfl
  · right
    rcases h'.2 with ⟨rfl, _⟩ | ⟨g', cap', cur', rfl, _, hgg', _⟩
    · simp [Value.ownBlock]
    · simp only [Value.ownBlock, ne_eq, Option.some.injEq]
      intro hc
      subst hc
      rw [hgg] at hgg'
      simp at hgg'
      exact hne hgg'.2

/-- The block in which a slice lies is one of elements of type e. -/
def TypedAt (w : World) (ao : Option Addr) (n : Nat) (e : TypeId) : Prop := 0 < n → ∀ a, ao = some a → ∃ cur fr, w.heap[a.block]? = some (.cells cur e fr)
theorem TypedAt.nil (w : World) (e : TypeId) : TypedAt w none 0 e := fun _ _ h => by cases h
theorem typed_own {w : World} {base e n c : Nat} {ao : Option Addr} {xs : List Value} (h : w.ownsRow base e 1 (.slice ao n c) n xs) : TypedAt w ao n e := fun _ a ha => by
  rcases h.2 with ⟨hv, _⟩ | ⟨g, cap, cur, hv, _, hgg, _⟩
  · simp only [Value.slice.injEq] at hv; rw [hv.1] at ha; cases ha
  · simp only [Value.slice.injEq] at hv; rw [hv.1] at ha; cases ha; exact ⟨cur, _, hgg⟩
theorem TypedAt.later {w w' : World} {ao : Option Addr} {n e B : Nat} (h : TypedAt w ao n e) (hb : Below B w w') (hB : w.heap.size ≤ B) : TypedAt w' ao n e := fun h0 a ha => by
  obtain ⟨cur, fr, hg⟩ := h h0 a ha
  exact ⟨cur, fr, by rw [hb.block _ (by have := (Array.getElem?_eq_some_iff.1 hg).1; omega)]; exact hg⟩
theorem typed_ne {w : World} {ao : Option Addr} {n e e' base n' : Nat} {v' : Value} {xs' : List Value} (h : TypedAt w ao n e) (h' : w.ownsRow base e' 1 v' n' xs') (hne : e ≠ e') (h0 : 0 < n) (a : Addr) (ha : ao = some a) : some a.block ≠ v'.ownBlock := by
  obtain ⟨cur, fr, hg⟩ := h h0 a ha
  rcases h'.2 with ⟨rfl, _⟩ | ⟨g', cap', cur', rfl, _, hgg', _⟩
  · simp [Value.ownBlock]
  · simp only [Value.ownBlock, ne_eq, Option.some.injEq]
    intro hc
    rw [hc, hgg'] at hg
    simp at hg
    exact hne hg.2.1.symm
theorem TypedAt.apart {w w' : World} {ao : Option Addr} {n e e' base n' : Nat} {v' : Value} {xs' : List Value} (h : TypedAt w ao n e) (h' : w.ownsRow base e' 1 v' n' xs') (hne : e ≠ e') (hg : w.grownBy w' v'.ownBlock) : TypedAt w' ao n e := fun h0 a ha => by
  obtain ⟨cur, fr, hgg⟩ := h h0 a ha
  exact ⟨cur, fr, by rw [hg.block _ (Array.getElem?_eq_some_iff.1 hgg).1 (typed_ne h h' hne h0 a ha)]; exact hgg⟩
/-- What lies in a block of another type is read as before. -/
theorem reads_apart {w w' : World} {ao : Option Addr} {n c e e' base n' : Nat} {v' : Value} {xs xs' : List Value} (hr : Reads w ao n c xs) (h : TypedAt w ao n e) (h' : w.ownsRow base e' 1 v' n' xs') (hne : e ≠ e') (hg : w.grownBy w' v'.ownBlock) : Reads w' ao n c xs :=
  ⟨hr.length, hr.le, hr.most, hr.bare, fun a ha j u hu => by
    have hj := (List.getElem?_eq_some_iff.1 hu).1
    have hn : 0 < n := by have := hr.length; omega
    obtain ⟨b, off, rfl⟩ : ∃ b off, a = ⟨b, off, none⟩ := by subst ha; exact hr.plain hn
    have hc := hr.cell _ ha j u hu
    have hne' := typed_ne h h' hne hn _ ha
    rw [Addr.add_lit] at hc ⊢
    exact hg.cell hc hne'⟩
/-- The block in which a slice lies is no older than B. -/
def FreshAt (B : Nat) (ao : Option Addr) (n : Nat) : Prop := 0 < n → ∀ a, ao = some a → B ≤ a.block
theorem FreshAt.nil (B : Nat) : FreshAt B none 0 := fun _ _ h => by cases h
theorem fresh_own {w : World} {base e n c : Nat} {ao : Option Addr} {xs : List Value} (h : w.ownsRow base e 1 (.slice ao n c) n xs) : FreshAt base ao n := fun _ a ha => by
  rcases h.2 with ⟨hv, _⟩ | ⟨g, cap, cur, hv, hb, _⟩
  · simp only [Value.slice.injEq] at hv; rw [hv.1] at ha; cases ha
  · simp only [Value.slice.injEq] at hv; rw [hv.1] at ha; cases ha; exact hb
/-- What is younger than the row that is appended onto is read as before. -/
theorem reads_young {w w' : World} {ao : Option Addr} {n c B : Nat} {v' : Value} {xs : List Value} (hr : Reads w ao n c xs) (h : FreshAt B ao n) (h' : ∀ k, v'.ownBlock = some k → k < B) (hg : w.grownBy w' v'.ownBlock) : Reads w' ao n c xs :=
  ⟨hr.length, hr.le, hr.most, hr.bare, fun a ha j u hu => by
    have hj := (List.getElem?_eq_some_iff.1 hu).1
    have hn : 0 < n := by have := hr.length; omega
    obtain ⟨b, off, rfl⟩ : ∃ b off, a = ⟨b, off, none⟩ := by subst ha; exact hr.plain hn
    have hc := hr.cell _ ha j u hu
    have hB : B ≤ b := h hn _ ha
    rw [Addr.add_lit] at hc ⊢
    refine hg.cell hc ?_
    intro he
    have := h' b he.symm
    omega⟩
theorem typed_young {w w' : World} {ao : Option Addr} {n e B : Nat} {v' : Value} (hT : TypedAt w ao n e) (h : FreshAt B ao n) (h' : ∀ k, v'.ownBlock = some k → k < B) (hg : w.grownBy w' v'.ownBlock) : TypedAt w' ao n e := fun h0 a ha => by
  obtain ⟨cur, fr, hgg⟩ := hT h0 a ha
  have hB := h h0 a ha
  exact ⟨cur, fr, by rw [hg.block _ (Array.getElem?_eq_some_iff.1 hgg).1 (fun he => by have := h' _ he.symm; omega)]; exact hgg⟩

/-- A row whose memory is younger than the other's is kept by an append onto that. -/
theorem own_young {w w' : World} {base base' e n : Nat} {v v' : Value} {xs : List Value} (h : w.ownsRow base e 1 v n xs) (h' : ∀ k, v'.ownBlock = some k → k < base) (hb : base' ≤ base) (hg : w.grownBy w' v'.ownBlock) : w'.ownsRow base' e 1 v n xs := by
  refine own_mono (h.kept hg ?_) hb
  rcases h.2 with ⟨rfl, _⟩ | ⟨g, cap, cur, rfl, hbg, _⟩
  · exact .inl rfl
  · right
    intro hc
    have := h' g (by rw [← hc]; rfl)
    omega

/-- 'append(own, src...)', whatever the source: it may grow; nothing but the own row's block has turned. -/
theorem wpList_append_grown {P : Program} {w : World} {ops : Array Oper} {rest : List Oper} {o : Oper} {a : Act} {Q : Exit → Act → World → Prop} (hgd : o.guard = none) (s x : Operand) (t : TypeId)
    (ho : o.op = .call { callee := .builtin .append, args := #[s, x], argTypes := #[t, t] }) (base : Nat) (e : TypeId) {z : Value} {bytes : Nat}
    (hinfo : (P.info? e).map (fun i => (i.zero, i.size, i.bytes)) = some (some z, 1, bytes)) (hzs : z.cells.size = 1) (ht : P.underlying t = some (.slice e))
    (ag : Option Addr) (n c : Nat) (xs : List Value) (hs : a.eval s = .slice ag n c) (hown : w.ownsRow base e 1 (.slice ag n c) n xs)
    (ao : Option Addr) (m d : Nat) (news : List Value) (hx : a.eval x = .slice ao m d) (hr : Reads w ao m d news) (h1 : ∀ u ∈ news, u.oneCell' = true)
    (h63 : n + m ≤ maxLen) (hbytes : (n + m) * bytes ≤ 140737488355328) (hbase : base ≤ w.heap.size)
    (h : ∀ ag' c' w', w'.ownsRow base e 1 (.slice ag' (n + m) c') (n + m) (xs ++ news) → w.grownBy w' (Value.slice ag n c).ownBlock → Below base w w' → wpList P ops Q rest (a.put o.dst (.slice ag' (n + m) c')) w') : wpList P ops Q (o :: rest) a w := by
  obtain ⟨i, hi, hz0, hz1, hz2⟩ := info_parts hinfo
  cases ao with
  | none =>
    obtain ⟨rfl, rfl⟩ := hr.bare rfl
    have : news = [] := List.eq_nil_of_length_eq_zero hr.length
    subst this
    refine wpList_append_own_none hgd s x t ho base e i 1 ht hi _ n xs hs hown hx ?_
    exact h ag c w (by simpa using hown) (World.grownBy.refl _ _) (Below.refl _ _)
  | some ad =>
    refine wpList_append_own w hgd s x t ho base e i z 1 bytes ht hi hz0 hz1 hz2 hzs (by decide) _ n xs hs hown ad m d news hx (by simpa using hr.length) (hr.cell ad rfl) h1 h63 hbytes hbase ?_
    intro v' w' hown' hgrow _
    have hb : Below base w w' := (Below.refl _ _).grown hgrow hbase (fun k hk => (hown.lt k hk).1)
    rcases hown'.2 with ⟨hv, hn⟩ | ⟨g', c', cur, hv, _⟩
    · subst hv
      have hn' : n + m = 0 := hn
      have e1 : (Value.slice none 0 0) = .slice none (n + m) 0 := by rw [hn']
      rw [e1] at hown' ⊢
      exact h none 0 w' hown' hgrow hb
    · subst hv
      exact h _ c' w' hown' hgrow hb

/-- The same at one operation, guarded or not. -/
theorem wp_append_reads {P : Program} {w : World} {o : Oper} {a : Act} {K : Act → World → Prop} {Q : Exit → Act → World → Prop} (s x : Operand) (t : TypeId)
    (ho : o.op = .call { callee := .builtin .append, args := #[s, x], argTypes := #[t, t] }) (base : Nat) (e : TypeId) {z : Value} {bytes : Nat}
    (hinfo : (P.info? e).map (fun i => (i.zero, i.size, i.bytes)) = some (some z, 1, bytes)) (hzs : z.cells.size = 1) (ht : P.underlying t = some (.slice e))
    (ag : Option Addr) (n c : Nat) (xs : List Value) (hs : a.eval s = .slice ag n c) (hown : w.ownsRow base e 1 (.slice ag n c) n xs)
    (ao : Option Addr) (m d : Nat) (news : List Value) (hx : a.eval x = .slice ao m d) (hr : Reads w ao m d news) (h1 : ∀ u ∈ news, u.oneCell' = true)
    (h63 : n + m ≤ maxLen) (hbytes : (n + m) * bytes ≤ 140737488355328) (hbase : base ≤ w.heap.size)
    (hK : ∀ ag' c' w', w'.ownsRow base e 1 (.slice ag' (n + m) c') (n + m) (xs ++ news) → w.grownBy w' (Value.slice ag n c).ownBlock → Below base w w' → K (a.put o.dst (.slice ag' (n + m) c')) w') :
    Oper.wp P o a w K Q := by
  obtain ⟨i, hi, hz0, hz1, hz2⟩ := info_parts hinfo
  cases ao with
  | none =>
    obtain ⟨rfl, rfl⟩ := hr.bare rfl
    have : news = [] := List.eq_nil_of_length_eq_zero hr.length
    subst this
    have hrun := run_append_owned_none (P := P) (w := w) base t o.type e i 1 ht hi _ n xs hown
    unfold Oper.wp
    simp [execOp, ho, resolve, invoke, builtin, hs, hx, hrun, Result.andThen]
    exact hK ag c w (by simpa using hown) (World.grownBy.refl _ _) (Below.refl _ _)
  | some ad =>
    refine wp_append_own w s x t ho base e i z 1 bytes ht hi hz0 hz1 hz2 hzs (by decide) _ n xs hs hown ad m d news hx (by simpa using hr.length) (hr.cell ad rfl) h1 h63 hbytes hbase ?_
    intro v' w' hown' hgrow _
    have hb : Below base w w' := (Below.refl _ _).grown hgrow hbase (fun k hk => (hown.lt k hk).1)
    rcases hown'.2 with ⟨hv, hn⟩ | ⟨g', c', cur, hv, _⟩
    · subst hv
      have hn' : n + m = 0 := hn
      have e1 : (Value.slice none 0 0) = .slice none (n + m) 0 := by rw [hn']
      rw [e1] at hown' ⊢
      exact hK none 0 w' hown' hgrow hb
    · subst hv
      exact hK _ c' w' hown' hgrow hb

/-- 'append(own, src...)', guarded by what is so. -/
theorem wpList_append_wanted {P : Program} {w : World} {ops : Array Oper} {rest : List Oper} {o : Oper} {a : Act} {Q : Exit → Act → World → Prop} (hw : Region.wanted o (yielded ops a.tmps) = true) (s x : Operand) (t : TypeId)
    (ho : o.op = .call { callee := .builtin .append, args := #[s, x], argTypes := #[t, t] }) (base : Nat) (e : TypeId) {z : Value} {bytes : Nat}
    (hinfo : (P.info? e).map (fun i => (i.zero, i.size, i.bytes)) = some (some z, 1, bytes)) (hzs : z.cells.size = 1) (ht : P.underlying t = some (.slice e))
    (ag : Option Addr) (n c : Nat) (xs : List Value) (hs : a.eval s = .slice ag n c) (hown : w.ownsRow base e 1 (.slice ag n c) n xs)
    (ao : Option Addr) (m d : Nat) (news : List Value) (hx : a.eval x = .slice ao m d) (hr : Reads w ao m d news) (h1 : ∀ u ∈ news, u.oneCell' = true)
    (h63 : n + m ≤ maxLen) (hbytes : (n + m) * bytes ≤ 140737488355328) (hbase : base ≤ w.heap.size)
    (h : ∀ ag' c' w', w'.ownsRow base e 1 (.slice ag' (n + m) c') (n + m) (xs ++ news) → w.grownBy w' (Value.slice ag n c).ownBlock → Below base w w' → wpList P ops Q rest (a.put o.dst (.slice ag' (n + m) c')) w') :
    wpList P ops Q (o :: rest) a w := by
  unfold wpList
  rw [if_pos hw]
  exact .inl (wp_append_reads s x t ho base e hinfo hzs ht ag n c xs hs hown ao m d news hx hr h1 h63 hbytes hbase h)

/-- 's[l:h]'. -/
theorem Reads.mid {P : Program} {t e : TypeId} (ht : P.underlying t = some (.slice e)) (hs : ∀ W, (sizeOf e).run P W = .ok 1 W) {ao : Option Addr} {len cap : Nat} (hc : len ≤ cap) (l h : Nat) (hl : l ≤ h) (hh : h ≤ len) :
    ∃ ao', (∀ W, (Instr.slice t (.slice ao len cap) (some (.int .i64 (l : Int))) (some (.int .i64 (h : Int))) none).run P W = .ok (.slice ao' (h - l) (cap - l)) W) ∧ (∀ W xs, Reads W ao len cap xs → Reads W ao' (h - l) (cap - l) ((xs.drop l).take (h - l))) := by
  have ht' : P.underlying t = some (.slice (P.elem t)) := by simp [Program.elem, ht]
  have he : P.elem t = e := by simp [Program.elem, ht]
  refine ⟨if cap = l then ao else ao.map (·.add (l * 1)), fun W => ?_, fun W xs hr => ⟨?_, ?_, ?_, ?_, ?_⟩⟩
  · rw [run_slice_lh (P := P) W t ao len cap ht' .i64 .i64 l h (by omega) (by omega) (by omega), he, hs]
    simp [Result.andThen, sliced]
  · have := hr.length; simp; omega
  · omega
  · have := hr.most; omega
  · intro hn
    split at hn
    · have := hr.bare hn; omega
    · simp only [Option.map_eq_none_iff] at hn
      have := hr.bare hn; omega
  · intro a ha j u hu
    have hj : j < h - l ∧ l + j < xs.length := by
      have := (List.getElem?_eq_some_iff.1 hu).1
      simp at this; omega
    rw [if_neg (by omega)] at ha
    cases ao with
    | none => simp at ha
    | some x =>
      simp only [Option.map_some, Option.some.injEq] at ha
      subst ha
      obtain ⟨b, off, rfl⟩ := hr.plain (by omega)
      have hcc := hr.cell _ rfl (l + j) u (by rw [List.getElem?_take_of_lt hj.1] at hu; simpa using hu)
      rw [Nat.mul_one, Addr.add_lit, Addr.add_lit, Nat.add_assoc]
      rw [Addr.add_lit] at hcc
      exact hcc

/-- 's[l:]', and the block's type. -/
theorem Reads.from_typed {P : Program} {t e : TypeId} (ht : P.underlying t = some (.slice e)) (hs : ∀ W, (sizeOf e).run P W = .ok 1 W) {ao : Option Addr} {len cap : Nat} (l : Nat) (hl : l ≤ len) :
    ∃ ao', (∀ W, (Instr.slice t (.slice ao len cap) (some (.int .i64 (l : Int))) none none).run P W = .ok (.slice ao' (len - l) (cap - l)) W) ∧ (∀ W xs, Reads W ao len cap xs → Reads W ao' (len - l) (cap - l) (xs.drop l)) ∧ (∀ W e', TypedAt W ao len e' → TypedAt W ao' (len - l) e') ∧ (∀ B, FreshAt B ao len → FreshAt B ao' (len - l)) := by
  have ht' : P.underlying t = some (.slice (P.elem t)) := by simp [Program.elem, ht]
  have he : P.elem t = e := by simp [Program.elem, ht]
  obtain ⟨a0, h1, h2⟩ := Reads.from (P := P) ht hs (ao := ao) (len := len) (cap := cap) l hl
  have h1' := h1 default
  rw [run_slice_l (P := P) default t ao len cap ht' .i64 l (by omega) (by omega), he, hs] at h1'
  simp [Result.andThen, sliced] at h1'
  have hbl : ∀ a, a0 = some a → ∃ x, ao = some x ∧ a.block = x.block := fun a ha => by
    subst ha
    split at h1'
    · exact ⟨a, h1', rfl⟩
    · cases ao with
      | none => simp at h1'
      | some x =>
        simp only [Option.map_some, Option.some.injEq] at h1'
        exact ⟨x, rfl, by rw [← h1']; unfold Addr.add; split <;> rfl⟩
  refine ⟨a0, h1, h2, fun W e' hT h0 a ha => ?_, fun B hF h0 a ha => ?_⟩
  · obtain ⟨x, hx, hb⟩ := hbl a ha
    rw [hb]
    exact hT (by omega) x hx
  · obtain ⟨x, hx, hb⟩ := hbl a ha
    rw [hb]
    exact hF (by omega) x hx

/-- Values that are own rows of bytes. -/
structure RowOwns (w : World) (base : Nat) (vs : List Value) (ls : List (List Int)) : Prop where
  length : vs.length = ls.length
  row : ∀ (i : Nat) (v : Value) (l : List Int), vs[i]? = some v → ls[i]? = some l → ∃ ai ci, v = .slice ai l.length ci ∧ w.ownsRow base 5 1 (.slice ai l.length ci) l.length (l.map (.int .u8))

theorem RowOwns.nil (w : World) (base : Nat) : RowOwns w base [] [] := ⟨rfl, fun i v l h => by simp at h⟩
theorem RowOwns.later {w w' : World} {base : Nat} {vs : List Value} {ls : List (List Int)} {B : Nat} (h : RowOwns w base vs ls) (hb : Below B w w') (hB : w.heap.size ≤ B) : RowOwns w' base vs ls :=
  ⟨h.length, fun i v l hv hl => by obtain ⟨ai, ci, e, hr⟩ := h.row i v l hv hl; exact ⟨ai, ci, e, own_later hr hb hB⟩⟩
theorem RowOwns.apart {w w' : World} {base base' e' n' : Nat} {vs : List Value} {ls : List (List Int)} {v' : Value} {xs' : List Value} (h : RowOwns w base vs ls) (h' : w.ownsRow base' e' 1 v' n' xs') (hne : 5 ≠ e') (hg : w.grownBy w' v'.ownBlock) : RowOwns w' base vs ls :=
  ⟨h.length, fun i v l hv hl => by obtain ⟨ai, ci, e, hr⟩ := h.row i v l hv hl; exact ⟨ai, ci, e, own_apart hr h' hne hg⟩⟩
theorem RowOwns.snoc {w : World} {base : Nat} {vs : List Value} {ls : List (List Int)} {ai : Option Addr} {m ci : Nat} {l : List Int} (h : RowOwns w base vs ls) (hm : l.length = m) (hr : w.ownsRow base 5 1 (.slice ai m ci) m (l.map (.int .u8))) : RowOwns w base (vs ++ [.slice ai m ci]) (ls ++ [l]) :=
  ⟨by simp [h.length], fun i v l' hv hl => by
    subst hm
    by_cases hi : i < vs.length
    · rw [List.getElem?_append_left hi] at hv
      rw [List.getElem?_append_left (by rw [← h.length]; exact hi)] at hl
      exact h.row i v l' hv hl
    · rw [List.getElem?_append_right (by omega)] at hv
      rw [List.getElem?_append_right (by rw [← h.length]; omega), ← h.length] at hl
      match i - vs.length, hv, hl with
      | 0, hv, hl => simp at hv hl; subst hv hl; exact ⟨ai, ci, rfl, hr⟩⟩
theorem RowOwns.vals {w : World} {base : Nat} {vs : List Value} {ls : List (List Int)} (h : RowOwns w base vs ls) : RowVals w vs ls :=
  ⟨h.length, fun i v l hv hl => by obtain ⟨ai, ci, e, hr⟩ := h.row i v l hv hl; exact ⟨ai, l.length, ci, e, Reads.own hr⟩⟩
end Go.Proofs.Ytgnhnhachhfafaa
