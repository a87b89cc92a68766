/-
  A row that is owned whole, or a slice that is full where it lies at the beginning of a block; append to it.
-/
import Derived.ArgAppend
import Derived.Test.YtebfmcafmojlaaaGreatDoorT06
import Derived.Test.YtebfmcafmojlaaaGreatDoorT08
namespace Go.Proofs.YtebfmcafmojlaaaGreatDoor
open Go.RowKit
set_option linter.unusedSimpArgs false
set_option linter.unusedVariables false

/-- A row of its own, or cut (s[:n:n]) from the beginning of one. -/
def RowC (w : World) (e : TypeId) (size : Nat) (v : Value) (n : Nat) (xs : List Value) : Prop :=
  w.ownsRow 0 e size v n xs ∨ (xs.length = n * size ∧ ∃ g cur, v = .slice (some ⟨g, 0, none⟩) n n ∧ w.heap[g]? = some (.cells cur e (0, 0)) ∧ cur.toList.take (n * size) = xs)

theorem RowC.same {w w' : World} {e : TypeId} {size : Nat} {v : Value} {n : Nat} {xs : List Value} (h : RowC w e size v n xs) (hb : ∀ k, v.ownBlock = some k → w'.heap[k]? = w.heap[k]?) : RowC w' e size v n xs := by
  rcases h with h | ⟨h1, g, cur, rfl, h2, h3⟩
  · exact .inl (owns_same h hb)
  · exact .inr ⟨h1, g, cur, rfl, (hb g rfl).trans h2, h3⟩

theorem RowC.form {w : World} {e : TypeId} {size : Nat} {v : Value} {n : Nat} {xs : List Value} (h : RowC w e size v n xs) : ∃ ao cap, v = .slice ao n cap := by
  rcases h with h | ⟨_, g, cur, rfl, _⟩
  · exact owns_form h
  · exact ⟨_, _, rfl⟩

theorem RowC.lt {w : World} {e : TypeId} {size : Nat} {v : Value} {n : Nat} {xs : List Value} (h : RowC w e size v n xs) : ∀ k, v.ownBlock = some k → k < w.heap.size := by
  rcases h with h | ⟨_, g, cur, rfl, h2, _⟩
  · exact fun k hk => (h.lt k hk).2
  · intro k hk
    simp [Value.ownBlock] at hk
    subst hk
    exact (Array.getElem?_eq_some_iff.1 h2).1

theorem RowC.alloc {w : World} {e : TypeId} {size : Nat} {v : Value} {n : Nat} {xs : List Value} (h : RowC w e size v n xs) (o : Obj) : RowC (w.alloc o) e size v n xs :=
  h.same (fun k hk => Below.heap_alloc _ _ _ (h.lt k hk))

theorem RowC.at0 {w : World} {e : TypeId} {size : Nat} {v : Value} {n : Nat} {xs : List Value} (h : RowC w e size v n xs) (h0 : 0 < n) (hs : 0 < size) : ∃ g cap, v = .slice (some ⟨g, 0, none⟩) n cap ∧ ∀ j u, xs[j]? = some u → w.cell? ⟨g, j, none⟩ = some u := by
  have hadd : ∀ g j, (⟨g, 0, none⟩ : Addr).add j = ⟨g, j, none⟩ := by intro g j; unfold Addr.add; split <;> simp_all
  rcases h with h | ⟨hl, g, cur, rfl, h2, h3⟩
  · rcases h.2 with ⟨rfl, hn⟩ | ⟨g, cap, cur, rfl, hb, hg, hnc, hcm, hcs, htake⟩
    · omega
    · refine ⟨g, cap, rfl, fun j u hj => ?_⟩
      have := h.cells (g := g) rfl j u hj
      rw [hadd] at this
      exact this
  · refine ⟨g, n, rfl, fun j u hj => ?_⟩
    have hjl : j < xs.length := (List.getElem?_eq_some_iff.1 hj).1
    rw [cell_of_heap h2]
    rw [← h3, List.getElem?_take] at hj
    rw [hl] at hjl
    rw [if_pos hjl] at hj
    simpa using hj

theorem run_append_rowc {P : Program} (w : World) (t ty e : TypeId) (i : TypeInfo) (z : Value) (size bytes : Nat) (ht : P.underlying t = some (.slice e)) (hi : P.info? e = some i) (hz : i.zero = some z)
    (hsize : i.size = size) (hby : i.bytes = bytes) (hzs : z.cells.size = size) (hsz : 0 < size)
    (v : Value) (n : Nat) (xs : List Value) (hown : RowC w e size v n xs)
    (a : Addr) (m c : Nat) (hm : 0 < m) (news : List Value) (hl : news.length = m * size) (hnews : ∀ j u, news[j]? = some u → w.cell? (a.add j) = some u) (h1 : ∀ u ∈ news, u.oneCell' = true)
    (h63 : n + m ≤ maxLen) (hbytes : (n + m) * bytes ≤ 140737488355328) :
    ∃ v' w', (Builtin.append_ #[t, t] ty #[v, .slice (some a) m c]).run P w = .ok v' w' ∧ w'.ownsRow 0 e size v' (n + m) (xs ++ news) ∧ w.grownBy w' v.ownBlock ∧ Placed w v v' := by
  rcases hown with hown | ⟨hlx, g, cur, rfl, h2, h3⟩
  · exact run_append_placed w 0 t ty e i z size bytes ht hi hz hsize hby hzs hsz v n xs hown a m c news hl hnews h1 h63 hbytes (Nat.zero_le _)
  · have hadd : ∀ g j, (⟨g, 0, none⟩ : Addr).add j = ⟨g, j, none⟩ := by intro g j; unfold Addr.add; split <;> simp_all
    obtain ⟨v', w', hr, ho, hg⟩ := run_append_arg_grows (P := P) (w := w) t ty e i z size bytes ht hi hz hsize hby hzs hsz ⟨g, 0, none⟩ n n xs hlx (by
      intro j u hj
      have hjl : j < xs.length := (List.getElem?_eq_some_iff.1 hj).1
      rw [hadd, cell_of_heap h2]
      rw [← h3, List.getElem?_take] at hj
      rw [hlx] at hjl
      rw [if_pos hjl] at hj
      simpa using hj) a m c news hl hnews (by omega) h63 hbytes
    refine ⟨v', w', hr, ownsRow_base ho (Nat.zero_le _), ⟨hg.os, hg.tape, hg.output, hg.size, fun k hk _ => hg.block k hk (by simp)⟩, ?_⟩
    intro k hk
    exact .inr (ho.lt k hk).1

theorem wpList_append_rowc {P : Program} {w : World} {ops : Array Oper} {rest : List Oper} {o : Oper} {a : Act} {Q : Exit → Act → World → Prop} (hgd : o.guard = none) (s x : Operand) (t : TypeId)
    (ho : o.op = .call { callee := .builtin .append, args := #[s, x], argTypes := #[t, t] })
    (e : TypeId) (i : TypeInfo) (z : Value) (size bytes : Nat) (ht : P.underlying t = some (.slice e)) (hi : P.info? e = some i) (hz : i.zero = some z)
    (hsize : i.size = size) (hby : i.bytes = bytes) (hzs : z.cells.size = size) (hsz : 0 < size)
    (v : Value) (n : Nat) (xs : List Value) (hs : a.eval s = v) (hown : RowC w e size v n xs)
    (ad : Addr) (m c : Nat) (hm : 0 < m) (news : List Value) (hx : a.eval x = .slice (some ad) m c) (hl : news.length = m * size) (hnews : ∀ j u, news[j]? = some u → w.cell? (ad.add j) = some u) (h1 : ∀ u ∈ news, u.oneCell' = true)
    (h63 : n + m ≤ maxLen) (hbytes : (n + m) * bytes ≤ 140737488355328)
    (h : ∀ v' w', w'.ownsRow 0 e size v' (n + m) (xs ++ news) → w.grownBy w' v.ownBlock → Placed w v v' → wpList P ops Q rest (a.put o.dst v') w') : wpList P ops Q (o :: rest) a w := by
  refine wpList_plain hgd fun K hK => ?_
  obtain ⟨v', w', hr, h2, h3, h4⟩ := run_append_rowc (P := P) w t o.type e i z size bytes ht hi hz hsize hby hzs hsz v n xs hown ad m c hm news hl hnews h1 h63 hbytes
  unfold Oper.wp execOp
  simp only [ho, resolve, invoke, builtin, Sem.run_bind, Sem.run_pure, Result.andThen_ok, List.map_toArray, List.map_cons, List.map_nil, hs, hx, hr]
  exact hK _ _ (h v' w' h2 h3 h4)

end Go.Proofs.YtebfmcafmojlaaaGreatDoor

/-
  copselaw.twin: told, answer.
-/
namespace Go.Proofs.YtebfmcafmojlaaaGreatDoor
open Go.RowKit
set_option linter.unusedSimpArgs false
set_option linter.unusedVariables false

def gots (l : List (Nat × Tab)) : List Value := l.flatMap (fun p => [intv p.1, tabv p.2])

theorem gots_len (l : List (Nat × Tab)) : (gots l).length = l.length * 2 := by
  unfold gots
  induction l with
  | nil => rfl
  | cons p l ih => simp only [List.flatMap_cons, List.length_append, List.length_cons, List.length_nil, ih]; omega

theorem gots_get (l : List (Nat × Tab)) (k : Nat) (h : k < l.length) : (gots l)[k * 2]? = some (intv (l.getD k (0, 0)).1) ∧ (gots l)[k * 2 + 1]? = some (tabv (l.getD k (0, 0)).2) := by
  unfold gots
  induction l generalizing k with
  | nil => simp at h
  | cons p l ih =>
    cases k with
    | zero => simp
    | succ k =>
      have := ih k (by simpa using h)
      simp only [List.flatMap_cons]
      have e1 : (k + 1) * 2 = k * 2 + 1 + 1 := by omega
      have e2 : (k + 1) * 2 + 1 = k * 2 + 1 + 1 + 1 := by omega
      rw [e1]
      simpa using this

theorem any_take_succ (l : List (Nat × Tab)) (f : Tab) (k : Nat) (h : k < l.length) : (l.take (k + 1)).any (fun p => p.2 == f) = ((l.take k).any (fun p => p.2 == f) || (l.getD k (0, 0)).2 == f) := by
  rw [List.take_succ_eq_append_getElem h, List.any_append]
  have : l.getD k (0, 0) = l[k] := by rw [List.getD_eq_getElem?_getD, List.getElem?_eq_getElem h]; rfl
  rw [this]
  simp

/-- A twin at block tb: its two copses at x and r, the live handles l. -/
structure TwinAt (O : Nat → Prop) (w : World) (tb x r : Nat) (l : List (Nat × Tab)) (av : Value) : Prop where
  lt : ∀ b, O b → b < w.heap.size
  self : O tb
  cells : w.heap[tb]? = some (.cells #[.pointer (some ⟨x, 0, none⟩), .pointer (some ⟨r, 0, none⟩), av] 108 (0, 0))
  row : RowC w 173 2 av l.length (gots l)
  ino : InO O av
  ne : av.ownBlock ≠ some tb

theorem TwinAt.keep {O : Nat → Prop} {w w' : World} {tb x r : Nat} {l : List (Nat × Tab)} {av : Value} (h : TwinAt O w tb x r l av) (hs : w.heap.size ≤ w'.heap.size) (hb : ∀ k, O k → w'.heap[k]? = w.heap[k]?) : TwinAt O w' tb x r l av :=
  ⟨fun b hb => Nat.lt_of_lt_of_le (h.lt b hb) hs, h.self, (hb tb h.self).trans h.cells, h.row.same (fun k hk => hb k (h.ino k hk)), h.ino, h.ne⟩

theorem TwinAt.read {O : Nat → Prop} {w : World} {tb x r : Nat} {l : List (Nat × Tab)} {av : Value} (h : TwinAt O w tb x r l av) (h0 : 0 < l.length) :
    ∃ g cap, av = .slice (some ⟨g, 0, none⟩) l.length cap ∧ O g ∧ ∀ k, k < l.length → w.cell? ⟨g, k * 2, none⟩ = some (intv (l.getD k (0, 0)).1) ∧ w.cell? ⟨g, k * 2 + 1, none⟩ = some (tabv (l.getD k (0, 0)).2) := by
  obtain ⟨g, cap, e, hc⟩ := h.row.at0 h0 (by decide)
  refine ⟨g, cap, e, h.ino g (by rw [e]; rfl), fun k hk => ?_⟩
  have hg2 := gots_get l k hk
  exact ⟨hc _ _ hg2.1, hc _ _ hg2.2⟩

/-- Behind a call the twin holds l', of the old blocks only those of O have turned. -/
def TwinStep (O : Nat → Prop) (w : World) (tb x r : Nat) (w' : World) (l' : List (Nat × Tab)) : Prop := Only O w w' ∧ ∃ O' av', TwinAt O' w' tb x r l' av' ∧ Grows w O O'
def toldL (l : List (Nat × Tab)) (hd : Nat) (f : Tab) : List (Nat × Tab) := if l.any (fun p => p.2 == f) then l else l ++ [(hd, f)]

theorem Tryz.infoGot : (Tryz.prog.info? 173).map (fun i => (i.zero, i.size, i.bytes)) = some (some (.agg #[.int .i64 0, .int .u64 0]), 2, 16) := by kernel_rfl
theorem two_cells (n : Nat) (f : Tab) : ∀ x ∈ [intv n, tabv f], x.oneCell' = true := by
  intro x hx
  simp at hx
  rcases hx with rfl | rfl <;> rfl

theorem twin_cells {O : Nat → Prop} {w w' : World} {o : Obj} {tb x r : Nat} {l : List (Nat × Tab)} {av : Value} (h : TwinAt O w tb x r l av) (hg : (w.alloc o).grownBy w' av.ownBlock) :
    w'.heap[tb]? = some (.cells #[.pointer (some ⟨x, 0, none⟩), .pointer (some ⟨r, 0, none⟩), av] 108 (0, 0)) := by
  have := h.lt tb h.self
  rw [hg.block tb (by simp; omega) (fun e => h.ne e.symm), Below.heap_alloc _ _ _ this]
  exact h.cells

theorem twin_stored {O : Nat → Prop} {w0 w w' : World} {o : Obj} {tb x r : Nat} {l : List (Nat × Tab)} {av av' : Value} {hd : Nat} {f : Tab} (h : TwinAt O w tb x r l av) (ho : Only O w0 w)
    (hown : w'.ownsRow 0 173 2 av' (l.length + 1) (gots l ++ [intv hd, tabv f])) (hg : (w.alloc o).grownBy w' av.ownBlock) (hp : Placed (w.alloc o) av av') :
    TwinStep O w0 tb x r (w'.setCell ⟨tb, 2, none⟩ av') (l ++ [(hd, f)]) := by
  have hcell := twin_cells h hg
  have hne : av'.ownBlock ≠ some tb := by
    intro e
    rcases hp tb e with e' | e'
    · exact h.ne e'
    · have := h.lt tb h.self; simp at e'; omega
  have ho1 : Only O w0 w' := (ho.alloc o).grown hg (fun k hk => .inl (h.ino k hk))
  refine ⟨ho1.setCell (p := ⟨tb, 2, none⟩) (.inl h.self) _, fun b => O b ∨ (w.heap.size ≤ b ∧ b < w'.heap.size), av', ?_, ?_⟩
  · have hs : w.heap.size ≤ w'.heap.size := by have := hg.size; simp at this; omega
    refine ⟨?_, .inl h.self, ?_, ?_, ?_, hne⟩
    · intro b hb
      rw [show (w'.setCell ⟨tb, 2, none⟩ av').heap.size = w'.heap.size by simp [World.setCell]]
      rcases hb with hb | hb
      · have := h.lt b hb; omega
      · exact hb.2
    · rw [heap_setCell_at hcell]; rfl
    · have := owns_same hown (w' := w'.setCell ⟨tb, 2, none⟩ av') (fun k hk => Below.heap_setCell _ _ _ _ (fun e => by subst e; exact hne hk))
      exact .inl (by simpa [gots] using this)
    · intro k hk
      rcases hp k hk with e' | e'
      · exact .inl (h.ino k e')
      · simp at e'; exact .inr ⟨by omega, (hown.lt k hk).2⟩
  · intro b hb
    rcases hb with hb | hb
    · exact .inl hb
    · exact .inr (Nat.le_trans ho.size hb.1)

set_option maxHeartbeats 2000000 in
set_option maxRecDepth 20000 in
theorem lawTold {O : Nat → Prop} {w : World} {tb x r : Nat} {l : List (Nat × Tab)} {av : Value} (h : TwinAt O w tb x r l av) (h0 : 0 < l.length) (hl : l.length ≤ 4000000) (hd : Nat) (hhd : hd < 4611686018427387904) (f : Tab)
    (halike : ∀ k, k < l.length → ((l.getD k (0, 0)).1 = hd ↔ (l.getD k (0, 0)).2 = f)) (hsmall : ∀ k, k < l.length → (l.getD k (0, 0)).1 < 4611686018427387904) :
    Calls Tryz.prog 109 #[.pointer (some ⟨tb, 0, none⟩), .int .i64 hd, .int .u64 (f.toNat : Int)] w fun e w' =>
      e = .returned (.bool true) ∧ TwinStep O w tb x r w' (toldL l hd f) := by
  obtain ⟨g, cap, rfl, hOg, hcx⟩ := h.read h0
  have hav : w.cell? ⟨tb, 2, none⟩ = some (.slice (some ⟨g, 0, none⟩) l.length cap) := by rw [cell_of_heap h.cells]; rfl
  have H : Hid _ := h
  clear h
  go_enter Tryz.func109, Tryz.ntmps109
  go_wp2
  go_loopw [7, 8] (fun kn i wr => ∃ k : Nat, k ≤ l.length ∧ i = .int .i64 k ∧ kn = .bool ((l.take k).any (fun p => p.2 == f)) ∧ ∃ nd, wr = w.drewN nd) (fun _ i _ => l.length - (intOf i).toNat)
  case atStart => exact ⟨0, Nat.zero_le _, rfl, rfl, 0, rfl⟩
  case round =>
    obtain ⟨k, hk, rfl, rfl, nd, rfl⟩ := hrel
    by_cases hkl : k < l.length
    · obtain ⟨h1, h2⟩ := hcx k hkl
      have ha := halike k hkl
      have hsm := hsmall k hkl
      obtain ⟨hx, fx, hp⟩ : ∃ hx fx, l.getD k (0, 0) = (hx, fx) := ⟨_, _, rfl⟩
      rw [hp] at h1 h2 ha hsm
      simp only [intv, tabv] at h1 h2 ha hsm
      have hany := any_take_succ l f k hkl
      rw [hp] at hany
      have HA : Hid _ := hany
      have HP : Hid _ := hp
      clear hcx halike hsmall hany hp
      have e2 := eq_tab fx f
      by_cases hf : fx = f
      · have e1 : ((hx : Int) == (hd : Int)) = true := by rw [ha.2 hf]; simp
        have hb : (fx == f) = true := by simp [hf]
        rw [hb] at e2
        have HB : Hid _ := hb
        clear hf ha hb
        cases hkn : (l.take k).any (fun p => p.2 == f)
        · have HK : Hid _ := hkn
          go_wp2
          go_quiet (fail)
          go_wp2
          go_roundw
          case rel => exact ⟨k + 1, by omega, by go_num, by rw [HA.out, HK.out, HB.out]; rfl, _, rfl⟩
          case measure => simp [intOf]; omega
        · have HK : Hid _ := hkn
          go_wp2
          go_quiet (fail)
          go_wp2
          go_roundw
          case rel => exact ⟨k + 1, by omega, by go_num, by rw [HA.out, HK.out, HB.out]; rfl, _, rfl⟩
          case measure => simp [intOf]; omega
      · have hb : (fx == f) = false := by simp [hf]
        have e1 : ((hx : Int) == (hd : Int)) = false := by
          have : hx ≠ hd := fun e => hf (ha.1 e)
          simp; omega
        rw [hb] at e2
        have HB : Hid _ := hb
        clear hf ha hb
        cases hkn : (l.take k).any (fun p => p.2 == f)
        · have HK : Hid _ := hkn
          go_wp2
          go_quiet (fail)
          go_wp2
          go_roundw
          case rel => exact ⟨k + 1, by omega, by go_num, by rw [HA.out, HK.out, HB.out]; rfl, _, rfl⟩
          case measure => simp [intOf]; omega
        · have HK : Hid _ := hkn
          go_wp2
          go_quiet (fail)
          go_wp2
          go_roundw
          case rel => exact ⟨k + 1, by omega, by go_num, by rw [HA.out, HK.out, HB.out]; rfl, _, rfl⟩
          case measure => simp [intOf]; omega
    · have hk' : l.take k = l := List.take_of_length_le (by omega)
      rw [hk']
      clear hk' hcx halike hsmall
      have hge : (0 : Int) ≤ (hd : Int) := by omega
      obtain ⟨i0, hi, hz0, hz1, hz2⟩ := info_parts Tryz.infoGot
      have hT := H.out
      have hD : TwinAt O (w.drewN nd) tb x r l (.slice (some ⟨g, 0, none⟩) l.length cap) := hT.keep (Nat.le_refl _) (fun _ _ => rfl)
      have hoD : Only O w (w.drewN nd) := ⟨rfl, rfl, rfl, Nat.le_refl _, fun _ _ _ => rfl⟩
      have HT : Hid _ := hD
      clear hT hD H
      cases hkn : l.any (fun p => p.2 == f)
      · have HK : Hid _ := hkn
        go_wp2_with (at_builtin; refine wpList_append_rowc rfl (.tmp 58) (.tmp 62) 106 rfl 173 i0 (.agg #[.int .i64 0, .int .u64 0]) 2 16 Tryz.underlying106 hi hz0 hz1 hz2 rfl (by decide) _ _ _ rfl (HT.out.row.alloc _) _ 1 1 (by decide) [intv hd, tabv f] rfl rfl ?_ ?_ ?_ ?_ ?_; exact cell_two_new _ _ _ _; exact two_cells _ _; exact le_maxLen (by omega); omega; intro v' w1 hown' hgrow hpl; obtain ⟨vao, vcap, rfl⟩ := owns_form hown'; have h6 := twin_cells HT.out hgrow; have f2 := frozen_of_heap (o := 2) h6; have g2 := cell_of_heap (o := 2) h6; simp only [List.getElem?_toArray, List.getElem?_cons_succ, List.getElem?_cons_zero] at g2)
        go_ret
        have e : toldL l hd f = l ++ [(hd, f)] := by unfold toldL; rw [HK.out]; rfl
        rw [e]
        exact ⟨rfl, twin_stored HT.out hoD hown' hgrow hpl⟩
      · have HK : Hid _ := hkn
        go_wp2_with fail
        go_ret
        have e : toldL l hd f = l := by unfold toldL; rw [HK.out]; rfl
        rw [e]
        exact ⟨rfl, hoD, O, _, HT.out, Grows.refl _ _⟩

end Go.Proofs.YtebfmcafmojlaaaGreatDoor

