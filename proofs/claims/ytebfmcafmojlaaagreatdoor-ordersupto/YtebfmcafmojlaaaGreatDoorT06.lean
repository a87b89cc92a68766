/-
  append: where the answer lies: in the old row, or in a new block.
-/
import Derived.Deep.RegionLaw
import Derived.Test.YtebfmcafmojlaaaGreatDoorT03
import Derived.Test.YtebfmcafmojlaaaGreatDoorT05
namespace Go.Proofs.YtebfmcafmojlaaaGreatDoor
open Go.RowKit
set_option linter.unusedSimpArgs false
set_option linter.unusedVariables false

/-- The row of v' is that of v, or a new block. -/
def Placed (w : World) (v v' : Value) : Prop := ∀ k, v'.ownBlock = some k → v.ownBlock = some k ∨ w.heap.size ≤ k

theorem run_append_placed {P : Program} (w : World) (base : Nat) (t ty e : TypeId) (i : TypeInfo) (z : Value) (size bytes : Nat) (ht : P.underlying t = some (.slice e)) (hi : P.info? e = some i) (hz : i.zero = some z)
    (hsize : i.size = size) (hby : i.bytes = bytes) (hzs : z.cells.size = size) (hsz : 0 < size)
    (v : Value) (n : Nat) (xs : List Value) (hown : w.ownsRow base e size v n xs)
    (a : Addr) (m c : Nat) (news : List Value) (hl : news.length = m * size) (hnews : ∀ j u, news[j]? = some u → w.cell? (a.add j) = some u) (h1 : ∀ u ∈ news, u.oneCell' = true)
    (h63 : n + m ≤ maxLen) (hbytes : (n + m) * bytes ≤ 140737488355328) (hbase : base ≤ w.heap.size) :
    ∃ v' w', (Builtin.append_ #[t, t] ty #[v, .slice (some a) m c]).run P w = .ok v' w' ∧ w'.ownsRow base e size v' (n + m) (xs ++ news) ∧ w.grownBy w' v.ownBlock ∧ Placed w v v' := by
  obtain ⟨v', w', hr, ho, hg, hz'⟩ := run_append_own (P := P) w base t ty e i z size bytes ht hi hz hsize hby hzs hsz v n xs hown a m c news hl hnews h1 h63 hbytes hbase
  refine ⟨v', w', hr, ho, hg, ?_⟩
  have hown2 := hown.2
  rcases hown2 with ⟨rfl, rfl⟩ | ⟨g, cap, cur, rfl, hb, hgg, hnc, hcm, hcs, htake⟩
  · have hx : xs = [] := List.eq_nil_of_length_eq_zero (by simpa using hown.1)
    subst hx
    obtain ⟨v2, w2, hr2, ho2, _, _⟩ := run_append_own (P := P) w w.heap.size t ty e i z size bytes ht hi hz hsize hby hzs hsz (.slice none 0 0) 0 [] (World.ownsRow_nil _ _ _ _) a m c news hl hnews h1 h63 hbytes (Nat.le_refl _)
    rw [hr] at hr2
    simp only [Result.ok.injEq] at hr2
    obtain ⟨rfl, rfl⟩ := hr2
    intro k hk
    exact .inr (ho2.lt k hk).1
  · subst hsize
    subst hby
    by_cases hroom : n + m ≤ cap
    · have hfit : n * i.size + news.length ≤ cur.size := by rw [hl, hcs, ← Nat.add_mul]; exact Nat.mul_le_mul_right _ hroom
      have hr2 := run_append_room (P := P) w t ty e i ht hi g n cap cur hgg a m c news hl hnews h1 hroom hfit
      rw [hr] at hr2
      simp only [Result.ok.injEq] at hr2
      obtain ⟨rfl, rfl⟩ := hr2
      intro k hk
      exact .inl hk
    · have hr2 := run_append_grow (P := P) w t ty e i z ht hi hz ⟨g, 0, none⟩ n cap xs hown.1 (hown.cells (g := g) rfl) a m c news hl hnews (by omega) (by simp only [maxLen] at h63; omega) (growslice_fits (by omega) hbytes)
      rw [hr] at hr2
      simp only [Result.ok.injEq] at hr2
      obtain ⟨rfl, rfl⟩ := hr2
      intro k hk
      simp [Value.ownBlock] at hk
      exact .inr (by omega)

/-- 'append(s, x...)', s owned, x at an address: with the place of the answer. -/
theorem wpList_append_placed {P : Program} {w : World} {ops : Array Oper} {rest : List Oper} {o : Oper} {a : Act} {Q : Exit → Act → World → Prop} (hgd : o.guard = none) (s x : Operand) (t : TypeId)
    (ho : o.op = .call { callee := .builtin .append, args := #[s, x], argTypes := #[t, t] })
    (base : Nat) (e : TypeId) (i : TypeInfo) (z : Value) (size bytes : Nat) (ht : P.underlying t = some (.slice e)) (hi : P.info? e = some i) (hz : i.zero = some z)
    (hsize : i.size = size) (hby : i.bytes = bytes) (hzs : z.cells.size = size) (hsz : 0 < size)
    (v : Value) (n : Nat) (xs : List Value) (hs : a.eval s = v) (hown : w.ownsRow base e size v n xs)
    (ad : Addr) (m c : Nat) (news : List Value) (hx : a.eval x = .slice (some ad) m c) (hl : news.length = m * size) (hnews : ∀ j u, news[j]? = some u → w.cell? (ad.add j) = some u) (h1 : ∀ u ∈ news, u.oneCell' = true)
    (h63 : n + m ≤ maxLen) (hbytes : (n + m) * bytes ≤ 140737488355328) (hbase : base ≤ w.heap.size)
    (h : ∀ v' w', w'.ownsRow base e size v' (n + m) (xs ++ news) → w.grownBy w' v.ownBlock → Placed w v v' → wpList P ops Q rest (a.put o.dst v') w') : wpList P ops Q (o :: rest) a w := by
  refine wpList_plain hgd fun K hK => ?_
  obtain ⟨v', w', hr, h2, h3, h4⟩ := run_append_placed (P := P) w base t o.type e i z size bytes ht hi hz hsize hby hzs hsz v n xs hown ad m c news hl hnews h1 h63 hbytes hbase
  unfold Oper.wp execOp
  simp only [ho, resolve, invoke, builtin, Sem.run_bind, Sem.run_pure, Result.andThen_ok, List.map_toArray, List.map_cons, List.map_nil, hs, hx, hr]
  exact hK _ _ (h v' w' h2 h3 h4)

/-- Two rows of different element types have no block in common. -/
theorem apart_of_types {w : World} {base base' : Nat} {e e' : TypeId} {size size' : Nat} {v v' : Value} {n n' : Nat} {xs xs' : List Value} (h : w.ownsRow base e size v n xs) (h' : w.ownsRow base' e' size' v' n' xs') (hne : e ≠ e') : v.ownBlock = none ∨ v.ownBlock ≠ v'.ownBlock := by
  rcases h.2 with ⟨rfl, _⟩ | ⟨g, cap, cur, rfl, _, hg, _⟩
  · exact .inl rfl
  · right
    rcases h'.2 with ⟨rfl, _⟩ | ⟨g', cap', cur', rfl, _, hg', _⟩
    · simp [Value.ownBlock]
    · simp only [Value.ownBlock, ne_eq, Option.some.injEq]
      intro e
      subst e
      rw [hg] at hg'
      simp at hg'
      exact hne hg'.2

/-- append to an owned row, as one step of a region that draws. -/
theorem step_append_placed {P : Program} {ops : Array Oper} {o : Oper} {a : Act} {w : World} {K : Act → World → Prop} {Q : Exit → Act → World → Prop} {E : Prop}
    (hg : o.guard = none) (s x : Operand) (t : TypeId) (ho : o.op = Op.call { callee := Callee.builtin Builtin.append, args := #[s, x], argTypes := #[t, t] })
    (base : Nat) (e : TypeId) (i : TypeInfo) (z : Value) (size bytes : Nat) (ht : P.underlying t = some (.slice e)) (hi : P.info? e = some i) (hz : i.zero = some z)
    (hsize : i.size = size) (hby : i.bytes = bytes) (hzs : z.cells.size = size) (hsz : 0 < size)
    (v : Value) (n : Nat) (xs : List Value) (hs : a.eval s = v) (hown : w.ownsRow base e size v n xs)
    (ad : Addr) (m c : Nat) (news : List Value) (hx : a.eval x = .slice (some ad) m c) (hl : news.length = m * size) (hnews : ∀ j u, news[j]? = some u → w.cell? (ad.add j) = some u) (h1 : ∀ u ∈ news, u.oneCell' = true)
    (h63 : n + m ≤ maxLen) (hbytes : (n + m) * bytes ≤ 140737488355328) (hbase : base ≤ w.heap.size)
    (hK : ∀ v' w', w'.ownsRow base e size v' (n + m) (xs ++ news) → w.grownBy w' v.ownBlock → Placed w v v' → K (a.put o.dst v') w') :
    if Region.wanted o (yielded ops a.tmps) = true then Oper.wp P o a w K Q else E := by
  have hw : Region.wanted o (yielded ops a.tmps) = true := by simp [Region.wanted, hg]
  rw [if_pos hw]
  obtain ⟨v', w', hr, h2, h3, h4⟩ := run_append_placed (P := P) w base t o.type e i z size bytes ht hi hz hsize hby hzs hsz v n xs hown ad m c news hl hnews h1 h63 hbytes hbase
  unfold Oper.wp execOp
  simp only [ho, resolve, invoke, builtin, Sem.run_bind, Sem.run_pure, Result.andThen_ok, List.map_toArray, List.map_cons, List.map_nil, hs, hx, hr]
  exact hK v' w' h2 h3 h4

end Go.Proofs.YtebfmcafmojlaaaGreatDoor

/-
  copseref: Var.
-/
namespace Go.Proofs.YtebfmcafmojlaaaGreatDoor
open Go.RowKit
set_option linter.unusedSimpArgs false
set_option linter.unusedVariables false

theorem Tryz.infoInt : (Tryz.prog.info? 3).map (fun i => (i.zero, i.size, i.bytes)) = some (some (.int .i64 0), 1, 8) := by kernel_rfl
theorem Tryz.infoStrR : (Tryz.prog.info? 9).map (fun i => (i.zero, i.size, i.bytes)) = some (some (.string ByteArray.empty), 1, 16) := by kernel_rfl

def newVarT (S : RefS) : List Tab := withT S.live [mask S.names.length]
def newOrder (S : RefS) : List Nat := S.order ++ [S.names.length]

def varR (S : RefS) (name : ByteArray) : Tab × Int × RefS :=
  if isNameB name = false ∨ 0 ≤ namedI S.names name then (0, 2, S)
  else if S.names.length = 6 then (0, 3, S)
  else if S.cap < ((allT (newOrder S) (newVarT S)).length : Int) then (0, 5, S)
  else (mask S.names.length, 0, { S with names := S.names ++ [name], order := newOrder S, live := newVarT S })

theorem oneCells_ints (l : List Nat) : ∀ u ∈ l.map intv, u.oneCell' = true := by
  intro u hu
  obtain ⟨f, _, rfl⟩ := List.mem_map.1 hu
  rfl
theorem one_cell_int (u : Nat) : ∀ x ∈ [intv u], x.oneCell' = true := by intro x hx; simp at hx; subst hx; rfl
theorem one_cell_str (u : ByteArray) : ∀ x ∈ [Value.string u], x.oneCell' = true := by intro x hx; simp at hx; subst hx; rfl

theorem refWith_one (f : Tab) {O : Nat → Prop} {w : World} {r : Nat} {S : RefS} {nv ov lv : Value} (h : RefAt O w r S nv ov lv) (ok : RefOk S) :
    Calls Tryz.prog 107 #[.pointer (some ⟨r, 0, none⟩), .slice (some ⟨w.heap.size, 0, none⟩) 1 1] (w.alloc (.cells #[.int .u64 (f.toNat : Int)] 111)) fun e w' =>
      ∃ v', e = .returned v' ∧ w'.ownsRow w.heap.size 111 1 v' (withT S.live [f]).length ((withT S.live [f]).map tabv) ∧ Below w.heap.size w w' := by
  have hb : Below w.heap.size w (w.alloc (.cells #[.int .u64 (f.toNat : Int)] 111)) := (Below.refl _ _).alloc (Nat.le_refl _) _
  refine (refWith_any [f] S.live (by simp) ok.ll (h.below hb) rfl w.heap.size 0 1 (by simp) ?_).mono ?_
  · intro i hi
    have : i = 0 := by simp at hi; exact hi
    subst this
    simp
  · rintro e w' ⟨v', rfl, ho, hb'⟩
    exact ⟨v', rfl, ownsRow_base ho (by simp), hb.trans (hb'.mono (by simp))⟩

theorem refAt_stored {O : Nat → Prop} {w w4 w5 : World} {r : Nat} {S : RefS} {nv ov lv nv' ov' lv' : Value} {o : Obj} {name : ByteArray} {ord : List Nat} {l : List Tab}
    (h0 : ∀ b, O b → b < w.heap.size) (hb : Below w.heap.size w w4) (h : RefAt O w4 r S nv ov lv)
    (hn : w5.ownsRow 0 9 1 nv' (S.names.length + 1) (S.names.map Value.string ++ [Value.string name])) (hg : (w4.alloc o).grownBy w5 nv.ownBlock) (hp : Placed (w4.alloc o) nv nv')
    (ho : w4.ownsRow w.heap.size 3 1 ov' ord.length (ord.map intv)) (hl : w4.ownsRow w.heap.size 111 1 lv' l.length (l.map tabv)) :
    RefStep O w r (((w5.setCell ⟨r, 1, none⟩ nv').setCell ⟨r, 2, none⟩ ov').setCell ⟨r, 3, none⟩ lv') { S with names := S.names ++ [name], order := ord, live := l } := by
  have hrw : r < w.heap.size := h0 r h.self
  have hsz : w4.heap.size < w5.heap.size := by have := hg.size; simp at this; omega
  have hb5 : ∀ k, k < w4.heap.size → nv.ownBlock ≠ some k → w5.heap[k]? = w4.heap[k]? := by
    intro k hk hne
    rw [hg.block k (by simp; omega) (fun e => hne e.symm), Below.heap_alloc _ _ _ hk]
  have hr5 : w5.heap[r]? = some (.cells #[.int .i64 S.cap, nv, ov, lv] 177 (0, 0)) := by
    rw [hb5 r (h.lt r h.self) h.nr]; exact h.cells
  have ho5 : w5.ownsRow w.heap.size 3 1 ov' ord.length (ord.map intv) := owns_same ho (fun k hk => hb5 k (ho.lt k hk).2 (fun e => by
    have h1 := h0 k (h.names.2 k e)
    have h2 := (ho.lt k hk).1
    omega))
  have hl5 : w5.ownsRow w.heap.size 111 1 lv' l.length (l.map tabv) := owns_same hl (fun k hk => hb5 k (hl.lt k hk).2 (fun e => by
    have h1 := h0 k (h.names.2 k e)
    have h2 := (hl.lt k hk).1
    omega))
  have hne : ∀ k, k ≠ r → (((w5.setCell ⟨r, 1, none⟩ nv').setCell ⟨r, 2, none⟩ ov').setCell ⟨r, 3, none⟩ lv').heap[k]? = w5.heap[k]? := by
    intro k hk
    rw [Below.heap_setCell _ ⟨r, 3, none⟩ _ k hk, Below.heap_setCell _ ⟨r, 2, none⟩ _ k hk, Below.heap_setCell _ ⟨r, 1, none⟩ _ k hk]
  have hsize : (((w5.setCell ⟨r, 1, none⟩ nv').setCell ⟨r, 2, none⟩ ov').setCell ⟨r, 3, none⟩ lv').heap.size = w5.heap.size := by simp [World.setCell]
  have hnr : nv'.ownBlock ≠ some r := by
    intro e
    rcases hp r e with e' | e'
    · exact h.nr e'
    · simp at e'; have := h.lt r h.self; omega
  have hor : ov'.ownBlock ≠ some r := fun e => by have := (ho.lt r e).1; omega
  have hlr : lv'.ownBlock ≠ some r := fun e => by have := (hl.lt r e).1; omega
  refine ⟨?_, fun b => O b ∨ (w.heap.size ≤ b ∧ b < w5.heap.size), ⟨nv', ov', lv', ?_⟩, ?_⟩
  · have o1 : Only O w w5 := ((only_of_below hb O).alloc o).grown hg (fun k hk => .inl (h.names.2 k hk))
    exact ((o1.setCell (p := ⟨r, 1, none⟩) (.inl h.self) _).setCell (p := ⟨r, 2, none⟩) (.inl h.self) _).setCell (p := ⟨r, 3, none⟩) (.inl h.self) _
  · refine ⟨?_, .inl h.self, ?_, ⟨?_, ?_⟩, ⟨?_, ?_⟩, ⟨?_, ?_⟩, hnr, hor, hlr, ?_, ?_⟩
    · intro b hb'
      rw [hsize]
      rcases hb' with hb' | hb'
      · have := h.lt b hb'; omega
      · exact hb'.2
    · rw [heap_setCell_at (heap_setCell_at (heap_setCell_at hr5))]; rfl
    · have := owns_same hn (w' := ((w5.setCell ⟨r, 1, none⟩ nv').setCell ⟨r, 2, none⟩ ov').setCell ⟨r, 3, none⟩ lv') (fun k hk => hne k (fun e => hnr (e ▸ hk)))
      simpa using this
    · intro k hk
      rcases hp k hk with e' | e'
      · exact .inl (h.names.2 k e')
      · simp at e'
        exact .inr ⟨by have := hb.size; omega, (hn.lt k hk).2⟩
    · have := owns_same (ownsRow_base ho5 (Nat.zero_le _)) (w' := ((w5.setCell ⟨r, 1, none⟩ nv').setCell ⟨r, 2, none⟩ ov').setCell ⟨r, 3, none⟩ lv') (fun k hk => hne k (fun e => hor (e ▸ hk)))
      simpa using this
    · intro k hk; exact .inr (ho5.lt k hk)
    · have := owns_same (ownsRow_base hl5 (Nat.zero_le _)) (w' := ((w5.setCell ⟨r, 1, none⟩ nv').setCell ⟨r, 2, none⟩ ov').setCell ⟨r, 3, none⟩ lv') (fun k hk => hne k (fun e => hlr (e ▸ hk)))
      simpa using this
    · intro k hk; exact .inr (hl5.lt k hk)
    · exact apart_of_types hn ho5 (by decide)
    · exact apart_of_types hn hl5 (by decide)
  · intro b hb'
    rcases hb' with hb' | hb'
    · exact .inl hb'
    · exact .inr hb'.1

theorem reads_order {w : World} {base : Nat} {v : Value} {S : RefS} (h : w.ownsRow base 3 1 v (S.order.length + 1) (S.order.map intv ++ [intv S.names.length])) : Reads w.heap.size w v ((newOrder S).map intv) := by
  have := reads_of_owns h
  simpa [newOrder] using this

theorem var_cells {O : Nat → Prop} {w w' : World} {o : Obj} {r : Nat} {S : RefS} {nv ov lv : Value} (h : RefAt O w r S nv ov lv) (hg : (w.alloc o).grownBy w' nv.ownBlock) : w'.heap[r]? = some (.cells #[.int .i64 S.cap, nv, ov, lv] 177 (0, 0)) := by
  have := h.lt r h.self
  rw [hg.block r (by simp; omega) (fun e => h.nr e.symm), Below.heap_alloc _ _ _ this]
  exact h.cells

theorem names_owns {O : Nat → Prop} {w : World} {o : Obj} {r : Nat} {S : RefS} {nv ov lv : Value} (h : RefAt O w r S nv ov lv) : (w.alloc o).ownsRow 0 9 1 nv S.names.length (S.names.map Value.string) := by
  have := h.names.1.alloc o
  rwa [List.length_map] at this

set_option maxHeartbeats 2000000 in
set_option maxRecDepth 20000 in
theorem refVarM_yes {O : Nat → Prop} {w : World} {r : Nat} {S : RefS} {nv ov lv : Value} (h : RefAt O w r S nv ov lv) (ok : RefOk S) (name : ByteArray) (hs : name.size ≤ maxLen)
    (h1 : isNameB name = true) (h2 : namedI S.names name = -1) (h3 : S.names.length < 6) (h4 : ¬ S.cap < ((allT (newOrder S) (newVarT S)).length : Int)) :
    Calls Tryz.prog 62 #[.pointer (some ⟨r, 0, none⟩), .string name] w fun e w' =>
      e = .returned (.tuple #[tabv (mask S.names.length), .int .i64 0]) ∧ RefStep O w r w' { S with names := S.names ++ [name], order := newOrder S, live := newVarT S } := by
  obtain ⟨i0, hi, hz0, hz1, hz2⟩ := info_parts Tryz.infoInt
  obtain ⟨j0, hj, gz0, gz1, gz2⟩ := info_parts Tryz.infoStrR
  have hbel := Below.refl w.heap.size w
  have hR := h
  have hrl : r < w.heap.size := h.lt r h.self
  have hc0 : w.cell? ⟨r, 0, none⟩ = some (.int .i64 S.cap) := by rw [cell_of_heap h.cells]; rfl
  have hc1 : w.cell? ⟨r, 1, none⟩ = some nv := by rw [cell_of_heap h.cells]; rfl
  have hc2 : w.cell? ⟨r, 2, none⟩ = some ov := by rw [cell_of_heap h.cells]; rfl
  have hnm := refNamed_any h name ok.nl
  rw [h2] at hnm
  have hfor := owns_form h.names.1
  rw [List.length_map] at hfor
  obtain ⟨nao, ncap, hnv⟩ := hfor
  subst hnv
  have hol := ok.ol
  have hon := ok.on
  have o6' : ∀ x ∈ newOrder S, x < 6 := by
    intro x hx
    rcases List.mem_append.1 hx with hx | hx
    · exact ok.o6 x hx
    · simp at hx; omega
  have ol' : (newOrder S).length ≤ 6 := by simp [newOrder]; omega
  have hvl : (newVarT S).length ≤ 5000000 := by have := withT_len S.live [mask S.names.length]; have := ok.ll; simp at *; unfold newVarT; omega
  have H0 : Hid _ := h.lt
  have b1 : 0 + (S.order.map intv).length ≤ maxLen := le_maxLen (by rw [List.length_map]; omega)
  have b2 : (0 + (S.order.map intv).length) * 8 ≤ 140737488355328 := by rw [List.length_map]; omega
  have b3 : (S.order.length + 1) * 8 ≤ 140737488355328 := by omega
  have b4 : S.order.length + 1 ≤ maxLen := le_maxLen (by omega)
  have b5 : (S.names.length + 1) * 16 ≤ 140737488355328 := by omega
  have b6 : S.names.length + 1 ≤ maxLen := le_maxLen (by omega)
  clear hon hol
  go_enter Tryz.func62, Tryz.ntmps62
  go_wp2_with (first
    | (go_at_call 104; refine (refIsName_any name _ hs).mono ?_; rintro e w1 ⟨rfl, hq⟩; replace hq := hq.symm; subst hq; rw [h1])
    | (go_at_call 105; refine hnm.mono ?_; rintro e w1 ⟨rfl, hq⟩; replace hq := hq.symm; subst hq)
    | (go_at_call 106; refine (refVar_any _ h3 _).mono ?_; rintro e w1 ⟨rfl, hb1⟩; replace hbel := hbel.trans hb1; replace hR := hR.below hb1; have hc2' := (hb1.cell (p := ⟨r, 2, none⟩) hrl).trans hc2)
    | (at_builtin; refine wpList_append_from rfl (.tmp 31) (.tmp 35) 25 rfl w.heap.size 3 i0 (.int .i64 0) 1 8 Tryz.underlying25 hi hz0 hz1 hz2 rfl (by decide) _ _ _ rfl (World.ownsRow_nil _ _ _ _) 0 _ _ _ rfl hR.order.1 (oneCells_ints _) b1 b2 hbel.size ?_; intro vo w2 hord hgr; have hb2 := grown_nil hgr; clear hgr; replace hbel := hbel.trans (hb2.mono hbel.size); replace hR := hR.below hb2; simp only [Nat.zero_add, List.nil_append, List.length_map] at hord; clear hb2)
    | (at_builtin; refine wpList_append_own _ rfl (.tmp 37) (.tmp 39) 25 rfl w.heap.size 3 i0 (.int .i64 0) 1 8 Tryz.underlying25 hi hz0 hz1 hz2 rfl (by decide) _ _ _ rfl (hord.alloc _) _ 1 1 [intv S.names.length] rfl rfl ?_ ?_ b4 b3 ?_ ?_; exact cell_one_new _ _ _; exact one_cell_int _; exact Nat.le_trans hbel.size (by simp); intro vo2 w3 hord2 hgr _; obtain ⟨oao, ocap, rfl⟩ := owns_form hord2; have hb3 := grown_below hgr hord hbel.size; clear hgr hord; replace hbel := hbel.trans hb3; replace hR := hR.keep hb3.size (fun k hk => hb3.block k (H0.out k hk)); clear hb3)
    | (go_at_call 107; refine (refWith_one _ hR ok).mono ?_; rintro e w4 ⟨vl, rfl, hlv, hb4⟩; obtain ⟨lao, lcap, rfl⟩ := owns_form hlv; replace hlv := ownsRow_base hlv hbel.size; replace hbel := hbel.trans (hb4.mono hbel.size); replace hR := hR.below hb4; replace hord2 := owns_below hord2 hb4 (Nat.le_refl _); clear hb4)
    | (go_at_call 108; refine (refAll_any (newOrder S) o6' ol' _ _ (newVarT S) _ ?_ ?_ hvl).mono ?_; exact reads_order hord2; exact reads_of_owns hlv; rintro e w5 ⟨va, rfl, hva, hb5⟩; obtain ⟨aao, acap, rfl⟩ := owns_form hva; clear hva; replace hbel := hbel.trans (hb5.mono hbel.size); replace hR := hR.below hb5; replace hord2 := owns_below hord2 hb5 (Nat.le_refl _); replace hlv := owns_below hlv hb5 (Nat.le_refl _); clear hb5; have hc0' : w5.cell? ⟨r, 0, none⟩ = some (.int .i64 S.cap) := by { rw [cell_of_heap hR.cells]; rfl }; have hc1' : w5.cell? ⟨r, 1, none⟩ = some (.slice nao S.names.length ncap) := by { rw [cell_of_heap hR.cells]; rfl })
    | (at_builtin; refine wpList_append_placed rfl (.tmp 59) (.tmp 61) 39 rfl 0 9 j0 (.string ByteArray.empty) 1 16 Tryz.underlying39 hj gz0 gz1 gz2 rfl (by decide) _ _ _ rfl (names_owns hR) _ 1 1 [Value.string name] rfl rfl ?_ ?_ b6 b5 ?_ ?_; exact cell_one_new _ _ _; exact one_cell_str _; exact Nat.zero_le _; intro vn w6 hnn hgr hpl; obtain ⟨qao, qcap, rfl⟩ := owns_form hnn; have h6 := var_cells hR hgr; have f1 := frozen_of_heap (o := 1) h6; have f2 := frozen_of_heap (o := 2) h6; have f3 := frozen_of_heap (o := 3) h6; have g1 := cell_of_heap (o := 1) h6; have g2 := cell_of_heap (o := 2) h6; have g3 := cell_of_heap (o := 3) h6; simp only [List.getElem?_toArray, List.getElem?_cons_succ, List.getElem?_cons_zero] at g1 g2 g3))
  go_ret2
  refine ⟨rfl, ?_⟩
  have hord3 : w5.ownsRow w.heap.size 3 1 (.slice oao (S.order.length + 1) ocap) (newOrder S).length ((newOrder S).map intv) := by simpa [newOrder] using hord2
  exact refAt_stored H0.out hbel hR hnn hgr hpl hord3 hlv

theorem refVarM_no {O : Nat → Prop} {w : World} {r : Nat} {S : RefS} {nv ov lv : Value} (h : RefAt O w r S nv ov lv) (ok : RefOk S) (name : ByteArray) (hs : name.size ≤ maxLen)
    (h1 : isNameB name = false ∨ 0 ≤ namedI S.names name) :
    Calls Tryz.prog 62 #[.pointer (some ⟨r, 0, none⟩), .string name] w fun e w' =>
      e = .returned (.tuple #[tabv 0, .int .i64 2]) ∧ w' = w := by
  have hnm := refNamed_any h name ok.nl
  cases hn : isNameB name
  · go_enter Tryz.func62, Tryz.ntmps62
    go_wp2_with (first
      | (go_at_call 104; refine (refIsName_any name _ hs).mono ?_; rintro e w1 ⟨rfl, hq⟩; replace hq := hq.symm; subst hq; rw [hn])
      | (go_at_call 105; refine hnm.mono ?_; rintro e w1 ⟨rfl, hq⟩; replace hq := hq.symm; subst hq))
    go_ret2
    exact ⟨rfl, rfl⟩
  · have h2 : 0 ≤ namedI S.names name := by
      rcases h1 with h1 | h1
      · rw [hn] at h1; cases h1
      · exact h1
    clear h1
    go_enter Tryz.func62, Tryz.ntmps62
    go_wp2_with (first
      | (go_at_call 104; refine (refIsName_any name _ hs).mono ?_; rintro e w1 ⟨rfl, hq⟩; replace hq := hq.symm; subst hq; rw [hn])
      | (go_at_call 105; refine hnm.mono ?_; rintro e w1 ⟨rfl, hq⟩; replace hq := hq.symm; subst hq))
    go_ret2
    exact ⟨rfl, rfl⟩

theorem refVarM_many {O : Nat → Prop} {w : World} {r : Nat} {S : RefS} {nv ov lv : Value} (h : RefAt O w r S nv ov lv) (ok : RefOk S) (name : ByteArray) (hs : name.size ≤ maxLen)
    (h1 : isNameB name = true) (h2 : namedI S.names name = -1) (h3 : S.names.length = 6) :
    Calls Tryz.prog 62 #[.pointer (some ⟨r, 0, none⟩), .string name] w fun e w' =>
      e = .returned (.tuple #[tabv 0, .int .i64 3]) ∧ w' = w := by
  have hnm := refNamed_any h name ok.nl
  have hc1 : w.cell? ⟨r, 1, none⟩ = some nv := by rw [cell_of_heap h.cells]; rfl
  have hfor := owns_form h.names.1
  rw [List.length_map, h3] at hfor
  obtain ⟨nao, ncap, hnv⟩ := hfor
  subst hnv
  rw [h2] at hnm
  go_enter Tryz.func62, Tryz.ntmps62
  go_wp2_with (first
    | (go_at_call 104; refine (refIsName_any name _ hs).mono ?_; rintro e w1 ⟨rfl, hq⟩; replace hq := hq.symm; subst hq; rw [h1])
    | (go_at_call 105; refine hnm.mono ?_; rintro e w1 ⟨rfl, hq⟩; replace hq := hq.symm; subst hq))
  go_ret2
  exact ⟨rfl, rfl⟩

set_option maxHeartbeats 2000000 in
set_option maxRecDepth 20000 in
theorem refVarM_full {O : Nat → Prop} {w : World} {r : Nat} {S : RefS} {nv ov lv : Value} (h : RefAt O w r S nv ov lv) (ok : RefOk S) (name : ByteArray) (hs : name.size ≤ maxLen)
    (h1 : isNameB name = true) (h2 : namedI S.names name = -1) (h3 : S.names.length < 6) (h4 : S.cap < ((allT (newOrder S) (newVarT S)).length : Int)) :
    Calls Tryz.prog 62 #[.pointer (some ⟨r, 0, none⟩), .string name] w fun e w' =>
      e = .returned (.tuple #[tabv 0, .int .i64 5]) ∧ Below w.heap.size w w' := by
  obtain ⟨i0, hi, hz0, hz1, hz2⟩ := info_parts Tryz.infoInt
  obtain ⟨j0, hj, gz0, gz1, gz2⟩ := info_parts Tryz.infoStrR
  have hbel := Below.refl w.heap.size w
  have hR := h
  have hrl : r < w.heap.size := h.lt r h.self
  have hc0 : w.cell? ⟨r, 0, none⟩ = some (.int .i64 S.cap) := by rw [cell_of_heap h.cells]; rfl
  have hc1 : w.cell? ⟨r, 1, none⟩ = some nv := by rw [cell_of_heap h.cells]; rfl
  have hc2 : w.cell? ⟨r, 2, none⟩ = some ov := by rw [cell_of_heap h.cells]; rfl
  have hnm := refNamed_any h name ok.nl
  rw [h2] at hnm
  have hfor := owns_form h.names.1
  rw [List.length_map] at hfor
  obtain ⟨nao, ncap, hnv⟩ := hfor
  subst hnv
  have hol := ok.ol
  have hon := ok.on
  have o6' : ∀ x ∈ newOrder S, x < 6 := by
    intro x hx
    rcases List.mem_append.1 hx with hx | hx
    · exact ok.o6 x hx
    · simp at hx; omega
  have ol' : (newOrder S).length ≤ 6 := by simp [newOrder]; omega
  have hvl : (newVarT S).length ≤ 5000000 := by have := withT_len S.live [mask S.names.length]; have := ok.ll; simp at *; unfold newVarT; omega
  have H0 : Hid _ := h.lt
  have b1 : 0 + (S.order.map intv).length ≤ maxLen := le_maxLen (by rw [List.length_map]; omega)
  have b2 : (0 + (S.order.map intv).length) * 8 ≤ 140737488355328 := by rw [List.length_map]; omega
  have b3 : (S.order.length + 1) * 8 ≤ 140737488355328 := by omega
  have b4 : S.order.length + 1 ≤ maxLen := le_maxLen (by omega)
  have b5 : (S.names.length + 1) * 16 ≤ 140737488355328 := by omega
  have b6 : S.names.length + 1 ≤ maxLen := le_maxLen (by omega)
  clear hon hol
  go_enter Tryz.func62, Tryz.ntmps62
  go_wp2_with (first
    | (go_at_call 104; refine (refIsName_any name _ hs).mono ?_; rintro e w1 ⟨rfl, hq⟩; replace hq := hq.symm; subst hq; rw [h1])
    | (go_at_call 105; refine hnm.mono ?_; rintro e w1 ⟨rfl, hq⟩; replace hq := hq.symm; subst hq)
    | (go_at_call 106; refine (refVar_any _ h3 _).mono ?_; rintro e w1 ⟨rfl, hb1⟩; replace hbel := hbel.trans hb1; replace hR := hR.below hb1; have hc2' := (hb1.cell (p := ⟨r, 2, none⟩) hrl).trans hc2)
    | (at_builtin; refine wpList_append_from rfl (.tmp 31) (.tmp 35) 25 rfl w.heap.size 3 i0 (.int .i64 0) 1 8 Tryz.underlying25 hi hz0 hz1 hz2 rfl (by decide) _ _ _ rfl (World.ownsRow_nil _ _ _ _) 0 _ _ _ rfl hR.order.1 (oneCells_ints _) b1 b2 hbel.size ?_; intro vo w2 hord hgr; have hb2 := grown_nil hgr; clear hgr; replace hbel := hbel.trans (hb2.mono hbel.size); replace hR := hR.below hb2; simp only [Nat.zero_add, List.nil_append, List.length_map] at hord; clear hb2)
    | (at_builtin; refine wpList_append_own _ rfl (.tmp 37) (.tmp 39) 25 rfl w.heap.size 3 i0 (.int .i64 0) 1 8 Tryz.underlying25 hi hz0 hz1 hz2 rfl (by decide) _ _ _ rfl (hord.alloc _) _ 1 1 [intv S.names.length] rfl rfl ?_ ?_ b4 b3 ?_ ?_; exact cell_one_new _ _ _; exact one_cell_int _; exact Nat.le_trans hbel.size (by simp); intro vo2 w3 hord2 hgr _; obtain ⟨oao, ocap, rfl⟩ := owns_form hord2; have hb3 := grown_below hgr hord hbel.size; clear hgr hord; replace hbel := hbel.trans hb3; replace hR := hR.keep hb3.size (fun k hk => hb3.block k (H0.out k hk)); clear hb3)
    | (go_at_call 107; refine (refWith_one _ hR ok).mono ?_; rintro e w4 ⟨vl, rfl, hlv, hb4⟩; obtain ⟨lao, lcap, rfl⟩ := owns_form hlv; replace hlv := ownsRow_base hlv hbel.size; replace hbel := hbel.trans (hb4.mono hbel.size); replace hR := hR.below hb4; replace hord2 := owns_below hord2 hb4 (Nat.le_refl _); clear hb4)
    | (go_at_call 108; refine (refAll_any (newOrder S) o6' ol' _ _ (newVarT S) _ ?_ ?_ hvl).mono ?_; exact reads_order hord2; exact reads_of_owns hlv; rintro e w5 ⟨va, rfl, hva, hb5⟩; obtain ⟨aao, acap, rfl⟩ := owns_form hva; clear hva; replace hbel := hbel.trans (hb5.mono hbel.size); replace hR := hR.below hb5; replace hord2 := owns_below hord2 hb5 (Nat.le_refl _); replace hlv := owns_below hlv hb5 (Nat.le_refl _); clear hb5; have hc0' : w5.cell? ⟨r, 0, none⟩ = some (.int .i64 S.cap) := by { rw [cell_of_heap hR.cells]; rfl }; have hc1' : w5.cell? ⟨r, 1, none⟩ = some (.slice nao S.names.length ncap) := by { rw [cell_of_heap hR.cells]; rfl }))
  go_ret2
  exact ⟨rfl, hbel⟩

theorem namedI_cases (names : List ByteArray) (name : ByteArray) : namedI names name = -1 ∨ 0 ≤ namedI names name := by
  unfold namedI
  split
  · exact .inr (by omega)
  · exact .inl rfl

theorem refVarM {O : Nat → Prop} {w : World} {r : Nat} {S : RefS} (h : RefIs O w r S) (ok : RefOk S) (name : ByteArray) (hs : name.size ≤ maxLen) :
    Calls Tryz.prog 62 #[.pointer (some ⟨r, 0, none⟩), .string name] w fun e w' =>
      e = .returned (.tuple #[tabv (varR S name).1, .int .i64 (varR S name).2.1]) ∧ RefStep O w r w' (varR S name).2.2 := by
  have hI := h
  obtain ⟨nv, ov, lv, h⟩ := h
  by_cases h1 : isNameB name = false ∨ 0 ≤ namedI S.names name
  · have e : varR S name = (0, 2, S) := by unfold varR; rw [if_pos h1]
    rw [e]
    refine (refVarM_no h ok name hs h1).mono ?_
    rintro e w' ⟨rfl, rfl⟩
    exact ⟨rfl, hI.step (Below.refl _ _)⟩
  · have h1' : isNameB name = true := by
      cases hn : isNameB name
      · exact absurd (.inl hn) h1
      · rfl
    have h2 : namedI S.names name = -1 := (namedI_cases S.names name).resolve_right (fun e => h1 (.inr e))
    by_cases h3 : S.names.length = 6
    · have e : varR S name = (0, 3, S) := by unfold varR; rw [if_neg h1, if_pos h3]
      rw [e]
      refine (refVarM_many h ok name hs h1' h2 h3).mono ?_
      rintro e w' ⟨rfl, rfl⟩
      exact ⟨rfl, hI.step (Below.refl _ _)⟩
    · have h3' : S.names.length < 6 := by have := ok.nl; omega
      by_cases h4 : S.cap < ((allT (newOrder S) (newVarT S)).length : Int)
      · have e : varR S name = (0, 5, S) := by unfold varR; rw [if_neg h1, if_neg h3, if_pos h4]
        rw [e]
        refine (refVarM_full h ok name hs h1' h2 h3' h4).mono ?_
        rintro e w' ⟨rfl, hb⟩
        exact ⟨rfl, hI.step hb⟩
      · have e : varR S name = (mask S.names.length, 0, { S with names := S.names ++ [name], order := newOrder S, live := newVarT S }) := by unfold varR; rw [if_neg h1, if_neg h3, if_neg h4]
        rw [e]
        exact refVarM_yes h ok name hs h1' h2 h3' h4

end Go.Proofs.YtebfmcafmojlaaaGreatDoor

