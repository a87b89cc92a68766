/-
  graph: add.
-/
import Derived.Deep.Cut
import Derived.Test.YtebfmcafmojlaaaGreatDoorT15
namespace Go.Proofs.YtebfmcafmojlaaaGreatDoor
open Go.RowKit Go.Maps
set_option linter.unusedSimpArgs false
set_option linter.unusedVariables false

theorem Tryz.infoNode : (Tryz.prog.info? 214).map (fun i => (i.zero, i.size, i.bytes)) = some (some (.agg #[.int .i64 0, .int .i64 0, .int .i64 0]), 3, 24) := by kernel_rfl

/-- A store into a map, as one step of a region that draws. -/
theorem step_mapUpdate_is {P : Program} {ops : Array Oper} {o : Oper} {a : Act} {w : World} {K : Act → World → Prop} {Q : Exit → Act → World → Prop} {E : Prop}
    (hg : o.guard = none) (m x v : Operand) (t : TypeId) (hop : o.op = Op.mapUpdate t m x v) (k e : TypeId) (Kd : Keyed P k) (ht : P.underlying t = some (.map k e)) (b : Nat) (L : List (Value × Value))
    (hm : a.eval m = .map (some b)) (hown : MapIs P k w b L) (key val : Value) (hx : a.eval x = key) (hv : a.eval v = val) (hkey : KeyOk P k key)
    (hK : ∀ w' L', MapIs P k w' b L' → MapTurn w w' b → (∀ p, p ∈ L' ↔ p = (key, val) ∨ (p ∈ L ∧ p.1 ≠ key)) → ((∀ u, (key, u) ∉ L) → L'.length = L.length + 1) → ((∃ u, (key, u) ∈ L) → L'.length = L.length) → K (a.put o.dst undef) w') :
    if Region.wanted o (yielded ops a.tmps) = true then Oper.wp P o a w K Q else E := by
  have hw : Region.wanted o (yielded ops a.tmps) = true := by simp [Region.wanted, hg]
  rw [if_pos hw]
  obtain ⟨w', L', hrun, h1, h2, h3, h4, h5⟩ := hown.store Kd ht (val := val) hkey
  unfold Oper.wp
  simp [execOp, hop, hm, hx, hv, hrun, Result.andThen]
  exact hK w' L' h1 h2 h3 h4 h5

theorem wrap64_id (n : Int) (h : -9223372036854775808 ≤ n ∧ n ≤ 9223372036854775807) : wrap64 n = n := by unfold wrap64; omega

theorem GrAt.free_len {O : Nat → Prop} {w : World} {gb : Nat} {S : GrS} {ov nv fv : Value} {mb rb : Nat} {M R : List (Value × Value)} (h : GrAt O w gb S ov nv fv mb rb M R) : S.free.length ≤ S.nl.length := by
  have := List.Nodup.length_le_of_subset h.fdup (l₂ := List.range S.nl.length) (fun i hi => List.mem_range.2 (h.fok i hi).2.1)
  simpa using this

theorem MapTurn.undrew {w w' : World} {b : Nat} (h : MapTurn w.drew w' b) : MapTurn w w' b := ⟨⟨h.1.os, h.1.tape, h.1.output, h.1.size, h.1.block⟩, h.2⟩

/-- The nodes' row, by its block. -/
theorem GrAt.nodesBlock {O : Nat → Prop} {w : World} {gb : Nat} {S : GrS} {ov nv fv : Value} {mb rb : Nat} {M R : List (Value × Value)} (h : GrAt O w gb S ov nv fv mb rb M R) :
    ∃ nb cap cur, nv = .slice (some ⟨nb, 0, none⟩) S.nl.length cap ∧ w.heap[nb]? = some (.cells cur 214 (0, 0)) ∧ O nb ∧ nb ≠ gb ∧ S.nl.length ≤ cap ∧ cap ≤ maxLen ∧ cur.size = cap * 3 ∧ cur.toList.take (S.nl.length * 3) = S.nl.flatMap ndCells := by
  have h1 := h.n1
  rcases h.nodes.2 with ⟨rfl, h0⟩ | ⟨g, cap, cur, rfl, hb, hg, hnc, hcm, hcs, htake⟩
  · omega
  · refine ⟨g, cap, cur, rfl, hg, h.nin g rfl, ?_, hnc, hcm, hcs, htake⟩
    intro e
    subst e
    have := h.cells
    rw [hg] at this
    simp at this

theorem cell3 {w : World} {b i : Nat} {cur : Array Value} {e : TypeId} (hb : w.heap[b]? = some (.cells cur e (0, 0))) (hi : i < cur.size) : ∃ x, w.cell? ⟨b, i, none⟩ = some x := by
  rw [cell_of_heap hb]
  exact ⟨_, Array.getElem?_eq_getElem hi⟩

set_option maxHeartbeats 400000 in
set_option maxRecDepth 10000 in
theorem graphAdd_old {O : Nat → Prop} {w : World} {gb : Nat} {S : GrS} {ov nv fv : Value} {mb rb : Nat} {M R : List (Value × Value)} (h : GrAt O w gb S ov nv fv mb rb M R) (n : Nd) (hv : n.v < 100000) (ht : n.t < refMax) (he : n.e < refMax) (l : Nat) (hl : S.free.length = l + 1) :
    Calls Tryz.prog 148 #[.pointer (some ⟨gb, 0, none⟩), ndKey n] w fun e w' => ∃ i fb fcap nb ncap M' W2, i = S.free.getD l 0 ∧ e = .returned (.int .i64 (i : Nat)) ∧ fv = .slice (some ⟨fb, 0, none⟩) (l + 1) fcap ∧ nv = .slice (some ⟨nb, 0, none⟩) S.nl.length ncap ∧
      W2 = ((((w.alloc (.cells #[.int .i64 (n.v : Int), .int .i64 (n.t : Int), .int .i64 (n.e : Int)] 214)).setCell ⟨gb, 3, none⟩ (.slice (some ⟨fb, 0, none⟩) l fcap)).setCell ⟨nb, i * 3, none⟩ (.int .i64 (n.v : Int))).setCell ⟨nb, i * 3 + 1, none⟩ (.int .i64 (n.t : Int))).setCell ⟨nb, i * 3 + 2, none⟩ (.int .i64 (n.e : Int)) ∧
      MapIs Tryz.prog 214 w' mb M' ∧ MapTurn W2 w' mb ∧ (∀ p, p ∈ M' ↔ p = (ndKey n, natv i) ∨ (p ∈ M ∧ p.1 ≠ ndKey n)) := by
  have hfl := h.free_len
  have hnl := h.nlen
  have hl5 : l < 100000 := by omega
  obtain ⟨nb, ncap, ncur, en, hnb, hob, hngb, hncap, hncm, hncs, hntk⟩ := h.nodesBlock
  subst en
  have hfr := h.free.1
  rw [List.length_map] at hfr
  obtain ⟨i, hi⟩ : ∃ i, i = S.free.getD l 0 := ⟨_, rfl⟩
  have hil : S.free[l]? = some i := by rw [hi, List.getD_eq_getElem?_getD, List.getElem?_eq_getElem (by omega)]; rfl
  have hin := (h.fok i (List.mem_of_getElem? hil)).2.1
  rcases hfr.2 with ⟨rfl, h0⟩ | ⟨fb, fcap, cur, efv, hfb, hfg, hfc, hfcm, hfcs, hft⟩
  · omega
  have cf : w.cell? ⟨fb, l, none⟩ = some (.int .i64 (i : Nat)) := by
    have := hfr.cells (g := fb) (by rw [efv]; rfl) l (natv i) (by rw [List.getElem?_map, hil]; rfl)
    have hadd : (⟨fb, 0, none⟩ : Addr).add l = ⟨fb, 0 + l, none⟩ := by unfold Addr.add; split <;> simp_all
    rw [hadd, Nat.zero_add] at this
    exact this
  rw [hl] at efv hfc
  subst efv
  have hlt1 : (l : Int) < (fcap : Int) := by omega
  have hlt2 : (i : Int) < (S.nl.length : Int) := by omega
  have hgb := h.lt gb h.self
  have hfbl : fb < w.heap.size := (Array.getElem?_eq_some_iff.1 hfg).1
  have hnbl : nb < w.heap.size := (Array.getElem?_eq_some_iff.1 hnb).1
  have hkey := node_key_ok n.v n.t n.e (by unfold refMax; omega) ht he
  obtain ⟨v, t, e⟩ := n
  simp only at hkey ⊢
  obtain ⟨W0, hW0⟩ : ∃ W0, W0 = w.alloc (.cells #[.int .i64 (v : Int), .int .i64 (t : Int), .int .i64 (e : Int)] 214) := ⟨_, rfl⟩
  rw [← hW0]
  have hbx : Below w.heap.size w W0 := by rw [hW0]; exact (Below.refl w.heap.size w).alloc (Nat.le_refl _) _
  have hbxc : W0.heap[w.heap.size]? = some (.cells #[.int .i64 (v : Int), .int .i64 (t : Int), .int .i64 (e : Int)] 214 (0, 0)) := by rw [hW0]; exact heap_alloc_new w _
  have hgc := (hbx.block gb hgb).trans h.cells
  have hnc := (hbx.block nb hnbl).trans hnb
  have hM := h.nums.same (hbx.block mb (h.lt mb h.om))
  have c1 : W0.cell? ⟨gb, 1, none⟩ = some (.slice (some ⟨nb, 0, none⟩) S.nl.length ncap) := by rw [cell_of_heap hgc]; rfl
  have c3 : W0.cell? ⟨gb, 3, none⟩ = some (.slice (some ⟨fb, 0, none⟩) (l + 1) fcap) := by rw [cell_of_heap hgc]; rfl
  replace cf := (hbx.cell (p := ⟨fb, l, none⟩) hfbl).trans cf
  have f3 : W0.frozen? ⟨gb, 3, none⟩ = false := frozen_of_heap hgc
  have hH : Hid (w.heap.size ≠ gb ∧ w.heap.size ≠ nb) := ⟨by omega, by omega⟩
  have hsz1 : i * 3 + 2 < ncur.size := by rw [hncs]; omega
  have HE : Hid (W0 = w.alloc (.cells #[.int .i64 (v : Int), .int .i64 (t : Int), .int .i64 (e : Int)] 214)) := hW0
  obtain ⟨W1, hW1⟩ : ∃ W1, W1 = W0.setCell ⟨gb, 3, none⟩ (.slice (some ⟨fb, 0, none⟩) l fcap) := ⟨_, rfl⟩
  have g1 : W1.heap[gb]? = some (.cells #[ov, .slice (some ⟨nb, 0, none⟩) S.nl.length ncap, .map (some mb), .slice (some ⟨fb, 0, none⟩) l fcap, .map (some rb)] 156 (0, 0)) := by rw [hW1, heap_setCell_at hgc]; rfl
  have n1 : W1.heap[nb]? = some (.cells ncur 214 (0, 0)) := by rw [hW1, Below.heap_setCell _ _ _ _ hngb]; exact hnc
  have b1 : W1.heap[w.heap.size]? = some (.cells #[.int .i64 (v : Int), .int .i64 (t : Int), .int .i64 (e : Int)] 214 (0, 0)) := by rw [hW1, Below.heap_setCell _ _ _ _ hH.out.1]; exact hbxc
  have m1 : MapIs Tryz.prog 214 W1 mb M := hM.same (by
    rw [hW1]
    refine Below.heap_setCell _ _ _ _ ?_
    intro e
    have hq := h.cells
    obtain ⟨es, clock, hq2, _⟩ := h.nums
    simp only at e
    rw [e] at hq2
    rw [hq] at hq2
    cases hq2)
  have k1 : W1.cell? ⟨gb, 1, none⟩ = some (.slice (some ⟨nb, 0, none⟩) S.nl.length ncap) := by rw [cell_of_heap g1]; rfl
  have p0 : W1.cell? ⟨w.heap.size, 0, none⟩ = some (.int .i64 (v : Int)) := by rw [cell_of_heap b1]; rfl
  have p1 : W1.cell? ⟨w.heap.size, 1, none⟩ = some (.int .i64 (t : Int)) := by rw [cell_of_heap b1]; rfl
  have p2 : W1.cell? ⟨w.heap.size, 2, none⟩ = some (.int .i64 (e : Int)) := by rw [cell_of_heap b1]; rfl
  obtain ⟨x0, q0⟩ := cell3 (i := i * 3) n1 (by omega)
  obtain ⟨x1, q1⟩ := cell3 (i := i * 3 + 1) n1 (by omega)
  obtain ⟨x2, q2⟩ := cell3 (i := i * 3 + 2) n1 (by omega)
  have f4 : W1.frozen? ⟨nb, i * 3, none⟩ = false := frozen_of_heap n1
  have f5 : W1.frozen? ⟨nb, i * 3 + 1, none⟩ = false := frozen_of_heap n1
  have f6 : W1.frozen? ⟨nb, i * 3 + 2, none⟩ = false := frozen_of_heap n1
  obtain ⟨W2, hW2⟩ : ∃ W2, W2 = ((W1.setCell ⟨nb, i * 3, none⟩ (.int .i64 (v : Int))).setCell ⟨nb, i * 3 + 1, none⟩ (.int .i64 (t : Int))).setCell ⟨nb, i * 3 + 2, none⟩ (.int .i64 (e : Int)) := ⟨_, rfl⟩
  have hother : ∀ b, b ≠ nb → W2.heap[b]? = W1.heap[b]? := by
    intro b hb
    rw [hW2, Below.heap_setCell _ _ _ _ hb, Below.heap_setCell _ _ _ _ hb, Below.heap_setCell _ _ _ _ hb]
  have g2 := (hother gb hngb.symm).trans g1
  have b2 := (hother w.heap.size hH.out.2).trans b1
  have m2 : MapIs Tryz.prog 214 W2 mb M := m1.same (hother mb (by
    intro e
    obtain ⟨es, clock, hq2, _⟩ := m1
    rw [e, n1] at hq2
    cases hq2))
  have k2 : W2.cell? ⟨gb, 2, none⟩ = some (.map (some mb)) := by rw [cell_of_heap g2]; rfl
  have r0 : W2.cell? ⟨w.heap.size, 0, none⟩ = some (.int .i64 (v : Int)) := by rw [cell_of_heap b2]; rfl
  have r1 : W2.cell? ⟨w.heap.size, 1, none⟩ = some (.int .i64 (t : Int)) := by rw [cell_of_heap b2]; rfl
  have r2 : W2.cell? ⟨w.heap.size, 2, none⟩ = some (.int .i64 (e : Int)) := by rw [cell_of_heap b2]; rfl
  have HI : Hid (i = S.free.getD l 0) := hi
  suffices hs : Calls Tryz.prog 148 #[.pointer (some ⟨gb, 0, none⟩), key3 v t e] w (fun e' w' => e' = .returned (.int .i64 (i : Nat)) ∧ ∃ M', MapIs Tryz.prog 214 w' mb M' ∧ MapTurn W2 w' mb ∧ (∀ p, p ∈ M' ↔ p = (key3 v t e, natv i) ∨ (p ∈ M ∧ p.1 ≠ key3 v t e))) by
    refine hs.mono ?_
    rintro e' w' ⟨rfl, M', a1, a2, a3⟩
    exact ⟨i, fb, fcap, nb, ncap, M', W2, hi, rfl, rfl, rfl, by rw [hW2, hW1], a1, a2, a3⟩
  have HW2 : Hid _ := hW2
  have HW1 : Hid _ := hW1
  clear hfl hnl hncap hncm hncs hntk hfr hil hin hfb hfg hfc hfcm hfcs hft hl hi hgb hfbl hnbl hbx hbxc hgc hnc hM hH hsz1 g1 n1 b1 m1 hother g2 b2 h hnb hob hv ht he
  unfold key3 at hkey ⊢
  go_enter Tryz.func148, Tryz.ntmps148
  go_upto_region 1 with fail
  rw [← hW0]
  clear hW0
  go_upto_region 6 with fail
  rw [← hW1]
  clear hW1 c1 c3 cf f3
  go_region
  rw [← hW2]
  clear hW2 k1 p0 p1 p2 q0 q1 q2 f4 f5 f6
  go_upto_region 8 with fail
  obtain ⟨w', M', hrun, a1, a2, a3, a4, a5⟩ := (m2.same (w' := W2.drew.drew) rfl).store node_keyed Tryz.underlying153 (val := .int .i64 (i : Int)) hkey
  have HA : Hid (∃ M', MapIs Tryz.prog 214 w' mb M' ∧ MapTurn W2 w' mb ∧ (∀ p, p ∈ M' ↔ p = (.agg #[.int .i64 (v : Int), .int .i64 (t : Int), .int .i64 (e : Int)], natv i) ∨ (p ∈ M ∧ p.1 ≠ .agg #[.int .i64 (v : Int), .int .i64 (t : Int), .int .i64 (e : Int)]))) := ⟨M', a1, a2.undrew.undrew, a3⟩
  clear a1 a2 a3 a4 a5
  go_region
  all_goals
    go_wp2
    go_ret
    exact ⟨rfl, HA.out⟩

end Go.Proofs.YtebfmcafmojlaaaGreatDoor

/-
  graph: add, where no number is free.
-/
namespace Go.Proofs.YtebfmcafmojlaaaGreatDoor
open Go.RowKit Go.Maps
set_option linter.unusedSimpArgs false
set_option linter.unusedVariables false

theorem cells_three {w : World} {b : Nat} {x y z : Value} {e : TypeId} (h : w.heap[b]? = some (.cells #[x, y, z] e (0, 0))) : ∀ j u, [x, y, z][j]? = some u → w.cell? ((⟨b, 0, none⟩ : Addr).add j) = some u := by
  intro j u hj
  have hadd : (⟨b, 0, none⟩ : Addr).add j = ⟨b, 0 + j, none⟩ := by unfold Addr.add; split <;> simp_all
  rw [hadd, Nat.zero_add, cell_of_heap h]
  simpa using hj

/-- append by what its run is, as one step of a region that draws. -/
theorem step_append_run {P : Program} {ops : Array Oper} {o : Oper} {a : Act} {w : World} {K : Act → World → Prop} {Q : Exit → Act → World → Prop} {E : Prop}
    (hg : o.guard = none) (s x : Operand) (t : TypeId) (ho : o.op = Op.call { callee := Callee.builtin Builtin.append, args := #[s, x], argTypes := #[t, t] })
    {v xv v' : Value} {w' : World} (hrun : (Builtin.append_ #[t, t] o.type #[v, xv]).run P w = .ok v' w') (hs : a.eval s = v) (hx : a.eval x = xv) (hK : K (a.put o.dst v') w') :
    if Region.wanted o (yielded ops a.tmps) = true then Oper.wp P o a w K Q else E := by
  have hw : Region.wanted o (yielded ops a.tmps) = true := by simp [Region.wanted, hg]
  rw [if_pos hw]
  unfold Oper.wp execOp
  simp only [ho, resolve, invoke, builtin, Sem.run_bind, Sem.run_pure, Result.andThen_ok, List.map_toArray, List.map_cons, List.map_nil, hs, hx, hrun]
  exact hK

set_option maxHeartbeats 400000 in
set_option maxRecDepth 10000 in
theorem graphAdd_new {O : Nat → Prop} {w : World} {gb : Nat} {S : GrS} {ov nv fv : Value} {mb rb : Nat} {M R : List (Value × Value)} (h : GrAt O w gb S ov nv fv mb rb M R) (n : Nd) (hv : n.v < 100000) (ht : n.t < refMax) (he : n.e < refMax) (hl : S.free = []) (hnl : S.nl.length + 1 ≤ 100000) :
    Calls Tryz.prog 148 #[.pointer (some ⟨gb, 0, none⟩), ndKey n] w fun e w' => ∃ v' M' w1, e = .returned (.int .i64 (S.nl.length : Nat)) ∧
      w1.ownsRow 0 214 3 v' (S.nl.length + 1) (S.nl.flatMap ndCells ++ [.int .i64 (n.v : Int), .int .i64 (n.t : Int), .int .i64 (n.e : Int)]) ∧ Only (fun b => nv.ownBlock = some b) w w1 ∧ (∀ b, v'.ownBlock = some b → nv.ownBlock = some b ∨ w.heap.size ≤ b) ∧
      MapIs Tryz.prog 214 w' mb M' ∧ MapTurn (w1.setCell ⟨gb, 1, none⟩ v') w' mb ∧ (∀ p, p ∈ M' ↔ p = (ndKey n, natv S.nl.length) ∨ (p ∈ M ∧ p.1 ≠ ndKey n)) := by
  obtain ⟨i0, hi, hz0, hz1, hz2⟩ := info_parts Tryz.infoNode
  obtain ⟨nb, ncap, ncur, en, hnb, hob, hngb, hncap, hncm, hncs, hntk⟩ := h.nodesBlock
  subst en
  have hfr := h.free.1
  obtain ⟨fao, fcap, efv⟩ := owns_form hfr
  rw [List.length_map, hl, List.length_nil] at efv
  subst efv
  have hgb := h.lt gb h.self
  have hnbl : nb < w.heap.size := (Array.getElem?_eq_some_iff.1 hnb).1
  have hkey := node_key_ok n.v n.t n.e (by unfold refMax; omega) ht he
  obtain ⟨v, t, e⟩ := n
  simp only at hkey ⊢
  obtain ⟨W0, hW0⟩ : ∃ W0, W0 = w.alloc (.cells #[.int .i64 (v : Int), .int .i64 (t : Int), .int .i64 (e : Int)] 214) := ⟨_, rfl⟩
  have hbx : Below w.heap.size w W0 := by rw [hW0]; exact (Below.refl w.heap.size w).alloc (Nat.le_refl _) _
  have hbxc : W0.heap[w.heap.size]? = some (.cells #[.int .i64 (v : Int), .int .i64 (t : Int), .int .i64 (e : Int)] 214 (0, 0)) := by rw [hW0]; exact heap_alloc_new w _
  have hgc := (hbx.block gb hgb).trans h.cells
  have c1 : W0.cell? ⟨gb, 1, none⟩ = some (.slice (some ⟨nb, 0, none⟩) S.nl.length ncap) := by rw [cell_of_heap hgc]; rfl
  have c3 : W0.cell? ⟨gb, 3, none⟩ = some (.slice fao 0 fcap) := by rw [cell_of_heap hgc]; rfl
  have p0 : W0.cell? ⟨w.heap.size, 0, none⟩ = some (.int .i64 (v : Int)) := by rw [cell_of_heap hbxc]; rfl
  have p1 : W0.cell? ⟨w.heap.size, 1, none⟩ = some (.int .i64 (t : Int)) := by rw [cell_of_heap hbxc]; rfl
  have p2 : W0.cell? ⟨w.heap.size, 2, none⟩ = some (.int .i64 (e : Int)) := by rw [cell_of_heap hbxc]; rfl
  have hown0 : W0.ownsRow 0 214 3 (.slice (some ⟨nb, 0, none⟩) S.nl.length ncap) S.nl.length (S.nl.flatMap ndCells) := owns_below h.nodes hbx (Nat.le_refl _)
  have hal := (Below.refl W0.heap.size W0).alloc (Nat.le_refl _) (.cells #[.int .i64 (v : Int), .int .i64 (t : Int), .int .i64 (e : Int)] 214)
  have hown1 : (W0.alloc (.cells #[.int .i64 (v : Int), .int .i64 (t : Int), .int .i64 (e : Int)] 214)).drew.ownsRow 0 214 3 (.slice (some ⟨nb, 0, none⟩) S.nl.length ncap) S.nl.length (S.nl.flatMap ndCells) := owns_below hown0 hal.drew (Nat.le_refl _)
  have hnewc : (W0.alloc (.cells #[.int .i64 (v : Int), .int .i64 (t : Int), .int .i64 (e : Int)] 214)).drew.heap[W0.heap.size]? = some (.cells #[.int .i64 (v : Int), .int .i64 (t : Int), .int .i64 (e : Int)] 214 (0, 0)) := heap_alloc_new W0 _
  obtain ⟨v', w1, hrun, hown', hgrow, hpl⟩ := run_append_placed (P := Tryz.prog) ((W0.alloc (.cells #[.int .i64 (v : Int), .int .i64 (t : Int), .int .i64 (e : Int)] 214)).drew) 0 152 152 214 i0 _ 3 24 Tryz.underlying152 hi hz0 hz1 hz2 rfl (by decide) _ S.nl.length _ hown1 ⟨W0.heap.size, 0, none⟩ 1 1 [.int .i64 (v : Int), .int .i64 (t : Int), .int .i64 (e : Int)] rfl (cells_three hnewc) (by simp [Value.oneCell']) (by unfold maxLen; omega) (by omega) (Nat.zero_le _)
  obtain ⟨va, vc, ev⟩ := owns_form hown'
  have honly : Only (fun b => (Value.slice (some ⟨nb, 0, none⟩) S.nl.length ncap).ownBlock = some b) w w1 := by
    have o1 : Only (fun b => (Value.slice (some ⟨nb, 0, none⟩) S.nl.length ncap).ownBlock = some b) w ((W0.alloc (.cells #[.int .i64 (v : Int), .int .i64 (t : Int), .int .i64 (e : Int)] 214)).drew) := only_of_below (hbx.trans (hal.drew.mono hbx.size)) _
    exact o1.grown hgrow (fun k hk => .inl hk)
  have hpl2 : ∀ b, v'.ownBlock = some b → (Value.slice (some ⟨nb, 0, none⟩) S.nl.length ncap).ownBlock = some b ∨ w.heap.size ≤ b := by
    intro b hb
    rcases hpl b hb with e1 | e1
    · exact .inl e1
    · have : W0.heap.size ≤ (W0.alloc (.cells #[.int .i64 (v : Int), .int .i64 (t : Int), .int .i64 (e : Int)] 214)).drew.heap.size := hal.size
      have := hbx.size
      exact .inr (by omega)
  have hsize1 : W0.heap.size ≤ w1.heap.size := Nat.le_trans hal.size hgrow.size
  have hblk : ∀ b, b < W0.heap.size → b ≠ nb → w1.heap[b]? = W0.heap[b]? := by
    intro b hb hne
    rw [hgrow.block b (Nat.lt_of_lt_of_le hb hal.size) (by simp [Value.ownBlock]; exact hne)]
    exact hal.block b hb
  have hws : w.heap.size < W0.heap.size := (Array.getElem?_eq_some_iff.1 hbxc).1
  have g1 := (hblk gb (by omega) hngb.symm).trans hgc
  have b1 := (hblk w.heap.size hws (by omega)).trans hbxc
  have k1 : w1.cell? ⟨gb, 1, none⟩ = some (.slice (some ⟨nb, 0, none⟩) S.nl.length ncap) := by rw [cell_of_heap g1]; rfl
  have f1 : w1.frozen? ⟨gb, 1, none⟩ = false := frozen_of_heap g1
  obtain ⟨W2, hW2⟩ : ∃ W2, W2 = w1.setCell ⟨gb, 1, none⟩ v' := ⟨_, rfl⟩
  have g2 : W2.heap[gb]? = some (.cells #[ov, v', .map (some mb), .slice fao 0 fcap, .map (some rb)] 156 (0, 0)) := by rw [hW2, heap_setCell_at g1]; rfl
  have b2 : W2.heap[w.heap.size]? = some (.cells #[.int .i64 (v : Int), .int .i64 (t : Int), .int .i64 (e : Int)] 214 (0, 0)) := by rw [hW2, Below.heap_setCell _ _ _ _ (by show w.heap.size ≠ gb; omega)]; exact b1
  have hmg : mb ≠ gb := by
    intro e
    obtain ⟨es, clock, hq2, _⟩ := h.nums
    rw [e, h.cells] at hq2
    cases hq2
  have hmn : mb ≠ nb := by
    intro e
    obtain ⟨es, clock, hq2, _⟩ := h.nums
    rw [e, hnb] at hq2
    cases hq2
  have hmlt := h.lt mb h.om
  have m2 : MapIs Tryz.prog 214 W2 mb M := h.nums.same (by
    rw [hW2, Below.heap_setCell _ _ _ _ hmg, hblk mb (by omega) hmn]
    exact hbx.block mb hmlt)
  have k2 : W2.cell? ⟨gb, 2, none⟩ = some (.map (some mb)) := by rw [cell_of_heap g2]; rfl
  have r0 : W2.cell? ⟨w.heap.size, 0, none⟩ = some (.int .i64 (v : Int)) := by rw [cell_of_heap b2]; rfl
  have r1 : W2.cell? ⟨w.heap.size, 1, none⟩ = some (.int .i64 (t : Int)) := by rw [cell_of_heap b2]; rfl
  have r2 : W2.cell? ⟨w.heap.size, 2, none⟩ = some (.int .i64 (e : Int)) := by rw [cell_of_heap b2]; rfl
  have c1' := (hal.cell (p := ⟨gb, 1, none⟩) (Nat.lt_of_lt_of_le hgb hbx.size)).trans c1
  suffices hs : Calls Tryz.prog 148 #[.pointer (some ⟨gb, 0, none⟩), key3 v t e] w (fun e' w' => e' = .returned (.int .i64 (S.nl.length : Nat)) ∧ ∃ M', MapIs Tryz.prog 214 w' mb M' ∧ MapTurn W2 w' mb ∧ (∀ p, p ∈ M' ↔ p = (key3 v t e, natv S.nl.length) ∨ (p ∈ M ∧ p.1 ≠ key3 v t e))) by
    refine hs.mono ?_
    rintro e' w' ⟨rfl, M', a1, a2, a3⟩
    exact ⟨v', M', w1, rfl, hown', honly, hpl2, a1, by rw [← hW2]; exact a2, a3⟩
  obtain ⟨N, hN⟩ : ∃ N, N = S.nl.length := ⟨_, rfl⟩
  rw [← hN] at c1 c1' hrun k1 hnl ⊢
  subst ev
  clear hncap hncm hncs hntk hfr hgb hnbl hbx hbxc hgc g1 b1 g2 b2 h hnb hob hv ht he hown0 hal hown1 hnewc hown' hgrow hpl hblk hmg hmn hmlt hws hsize1 honly hpl2 hi hz0 hz1 hz2 hN
  have HR : Hid _ := hrun
  clear hrun
  unfold key3 at hkey ⊢
  go_enter Tryz.func148, Tryz.ntmps148
  go_upto_region 1 with fail
  rw [← hW0]
  clear hW0
  go_upto_region 7 with fail
  go_region_law (refine step_append_run rfl (.tmp 47) (.tmp 49) 152 rfl HR.out (by simp [Act.eval, Act.put]) (by simp [Act.eval, Act.put]) ?_)
  all_goals
    rw [← hW2]
    clear hW2 k1 p0 p1 p2 f1 c1 c3 c1' HR
    go_upto_region 8 with fail
    obtain ⟨w', M', hrun, a1, a2, a3, a4, a5⟩ := (m2.same (w' := W2.drew) rfl).store node_keyed Tryz.underlying153 (val := .int .i64 (N : Int)) hkey
    have HA : Hid (∃ M', MapIs Tryz.prog 214 w' mb M' ∧ MapTurn W2 w' mb ∧ (∀ p, p ∈ M' ↔ p = (.agg #[.int .i64 (v : Int), .int .i64 (t : Int), .int .i64 (e : Int)], natv N) ∨ (p ∈ M ∧ p.1 ≠ .agg #[.int .i64 (v : Int), .int .i64 (t : Int), .int .i64 (e : Int)]))) := ⟨M', a1, a2.undrew, a3⟩
    clear a1 a2 a3 a4 a5
    go_region
    all_goals
      go_wp2
      go_ret
      exact ⟨rfl, HA.out⟩

end Go.Proofs.YtebfmcafmojlaaaGreatDoor

/-
  graph: add, as a step of the graph.
-/
namespace Go.Proofs.YtebfmcafmojlaaaGreatDoor
open Go.RowKit Go.Maps
set_option linter.unusedSimpArgs false
set_option linter.unusedVariables false

structure GrS.Added (S : GrS) (n : Nd) (i : Nat) (S' : GrS) : Prop where
  g : S'.g = S.g.add i n
  i0 : i ≠ 0
  none : S.g.node i = Option.none
  len : S'.nl.length ≤ S.nl.length + 1
  le : S.nl.length ≤ S'.nl.length
  full : S'.free = [] ∨ S'.nl.length = S.nl.length
  mono : S.free = [] → S'.free = []
  ov : S'.ov = S.ov
  compl : S.Full → S'.Full

theorem ndKey_inj {n m : Nd} (h : ndKey n = ndKey m) : n = m := by
  obtain ⟨a, b, c⟩ := key3_inj h
  cases n; cases m; simp_all

theorem added_mok {S S' : GrS} {n : Nd} {i : Nat} {M M' : List (Value × Value)} (hg : S'.g = S.g.add i n) (hnone : S.g.node i = none) (hnew : ∀ j, S.g.node j ≠ some n)
    (mok : ∀ p, p ∈ M ↔ ∃ i n, S.g.node i = some n ∧ p = (ndKey n, natv i)) (hM : ∀ p, p ∈ M' ↔ p = (ndKey n, natv i) ∨ (p ∈ M ∧ p.1 ≠ ndKey n)) : ∀ p, p ∈ M' ↔ ∃ i n, S'.g.node i = some n ∧ p = (ndKey n, natv i) := by
  intro p
  rw [hM, hg]
  constructor
  · rintro (rfl | ⟨hp, _⟩)
    · exact ⟨i, n, Gr.add_node _ _ _, rfl⟩
    · obtain ⟨j, m, hm, rfl⟩ := (mok p).1 hp
      have hji : j ≠ i := by intro e; subst e; rw [hnone] at hm; cases hm
      exact ⟨j, m, by simp [Gr.add, hji, hm], rfl⟩
  · rintro ⟨j, m, hm, rfl⟩
    by_cases hji : j = i
    · subst hji
      rw [Gr.add_node] at hm
      cases hm
      exact .inl rfl
    · simp [Gr.add, hji] at hm
      refine .inr ⟨(mok _).2 ⟨j, m, hm, rfl⟩, ?_⟩
      intro e
      have := ndKey_inj e
      subst this
      exact hnew j hm

theorem ext_rok {G G' : Gr} (hx : G.Ext G') {R : List (Value × Value)} (rok : ∀ p, p ∈ R → ∃ f g h r, p = (key3 f g h, natv r) ∧ G.ok f ∧ G.ok g ∧ G.ok h ∧ G.ok r ∧ G.tab r = iteT (G.tab f) (G.tab g) (G.tab h)) :
    ∀ p, p ∈ R → ∃ f g h r, p = (key3 f g h, natv r) ∧ G'.ok f ∧ G'.ok g ∧ G'.ok h ∧ G'.ok r ∧ G'.tab r = iteT (G'.tab f) (G'.tab g) (G'.tab h) := by
  intro p hp
  obtain ⟨f, g, h, r, e, a, b, c, d, t⟩ := rok p hp
  exact ⟨f, g, h, r, e, hx.ok a, hx.ok b, hx.ok c, hx.ok d, by rw [hx.tab a, hx.tab b, hx.tab c, hx.tab d]; exact t⟩

theorem flat3_set (l : List (Option Nd)) (i : Nat) (hi : i < l.length) (n : Nd) : (((l.flatMap ndCells).set (i * 3) (.int .i64 (n.v : Int))).set (i * 3 + 1) (.int .i64 (n.t : Int))).set (i * 3 + 2) (.int .i64 (n.e : Int)) = (l.set i (some n)).flatMap ndCells := by
  induction l generalizing i with
  | nil => simp at hi
  | cons a l ih =>
    cases i with
    | zero =>
      have : ∃ x y z, ndCells a = [x, y, z] := by cases a <;> exact ⟨_, _, _, rfl⟩
      obtain ⟨x, y, z, e⟩ := this
      rw [List.set_cons_zero, List.flatMap_cons, List.flatMap_cons, e]
      rfl
    | succ i =>
      have hl := ndCells_len a
      rw [List.flatMap_cons, List.set_cons_succ, List.flatMap_cons, ← ih i (by simpa using hi)]
      rw [List.set_append_right _ _ (by omega), List.set_append_right _ _ (by omega), List.set_append_right _ _ (by omega), hl]
      have e1 : (i + 1) * 3 - 3 = i * 3 := by omega
      have e2 : (i + 1) * 3 + 1 - 3 = i * 3 + 1 := by omega
      have e3 : (i + 1) * 3 + 2 - 3 = i * 3 + 2 := by omega
      rw [e1, e2, e3]

theorem GrAt.maps_ne {O : Nat → Prop} {w : World} {gb : Nat} {S : GrS} {ov nv fv : Value} {mb rb : Nat} {M R : List (Value × Value)} (h : GrAt O w gb S ov nv fv mb rb M R) :
    (∀ b c e fr, w.heap[b]? = some (.cells c e fr) → b ≠ mb ∧ b ≠ rb) := by
  intro b c e fr hb
  constructor
  · intro e1
    obtain ⟨es, clock, hq2, _⟩ := h.nums
    rw [← e1, hb] at hq2
    cases hq2
  · intro e1
    obtain ⟨es, clock, hq2, _⟩ := h.res
    rw [← e1, hb] at hq2
    cases hq2

/-- A row's block is a row's. -/
theorem row_block {w : World} {base : Nat} {e : TypeId} {size : Nat} {v : Value} {n : Nat} {xs : List Value} (h : w.ownsRow base e size v n xs) {b : Nat} (hb : v.ownBlock = some b) : ∃ cur, w.heap[b]? = some (.cells cur e (0, 0)) := by
  rcases h.2 with ⟨rfl, _⟩ | ⟨g, cap, cur, rfl, _, hg, _⟩
  · cases hb
  · simp [Value.ownBlock] at hb
    subst hb
    exact ⟨cur, hg⟩

theorem Row.block {O : Nat → Prop} {w : World} {e : TypeId} {v : Value} {xs : List Value} (h : Row O w e v xs) {b : Nat} (hb : v.ownBlock = some b) : ∃ cur, w.heap[b]? = some (.cells cur e (0, 0)) := row_block h.1 hb

theorem GrS.add_set {S : GrS} {n : Nd} {i : Nat} (hi : i < S.nl.length) (fr : List Nat) : (GrS.mk S.order (S.nl.set i (some n)) fr (fun j => if j = i then iteT (mask n.v) (S.g.tab n.t) (S.g.tab n.e) else S.sem j) S.ov).g = S.g.add i n := by
  unfold GrS.g Gr.add
  simp only [Gr.mk.injEq, true_and, and_true]
  funext j
  simp only [List.getD_eq_getElem?_getD, List.getElem?_set]
  by_cases e : i = j
  · subst e; simp [hi]
  · have : ¬ j = i := fun e' => e e'.symm
    simp [e, this]

theorem GrS.add_snoc {S : GrS} {n : Nd} (fr : List Nat) : (GrS.mk S.order (S.nl ++ [some n]) fr (fun j => if j = S.nl.length then iteT (mask n.v) (S.g.tab n.t) (S.g.tab n.e) else S.sem j) S.ov).g = S.g.add S.nl.length n := by
  unfold GrS.g Gr.add
  simp only [Gr.mk.injEq, true_and, and_true]
  funext j
  simp only [List.getD_eq_getElem?_getD]
  by_cases e : j = S.nl.length
  · subst e; simp
  · rcases Nat.lt_or_gt_of_ne e with hl | hl
    · rw [List.getElem?_append_left hl]; simp [e]
    · rw [List.getElem?_eq_none (by simp; omega), List.getElem?_eq_none (by omega)]; simp [e]

theorem graphAdd_old_is {O : Nat → Prop} {w : World} {gb : Nat} {S : GrS} {ov nv fv : Value} {mb rb : Nat} {M R : List (Value × Value)} (h : GrAt O w gb S ov nv fv mb rb M R) (n : Nd) (hv : n.v < 100000) (ht : n.t < refMax) (he : n.e < refMax) (hnew : ∀ j, S.g.node j ≠ some n) (l : Nat) (hl : S.free.length = l + 1) :
    Calls Tryz.prog 148 #[.pointer (some ⟨gb, 0, none⟩), ndKey n] w fun e w' => ∃ i S', e = .returned (.int .i64 (i : Nat)) ∧ GrStep O w gb w' S' ∧ S.Added n i S' := by
  refine (graphAdd_old h n hv ht he l hl).mono ?_
  rintro e w' ⟨i, fb, fcap, nb, ncap, M', W2, hi, rfl, rfl, rfl, hW2, a1, a2, a3⟩
  have hil : S.free[l]? = some i := by rw [hi, List.getD_eq_getElem?_getD, List.getElem?_eq_getElem (by omega)]; rfl
  have him : i ∈ S.free := List.mem_of_getElem? hil
  obtain ⟨hi0, hin, hnone⟩ := h.fok i him
  have hdrop : S.free = S.free.dropLast ++ [i] := by
    have hne : S.free ≠ [] := by intro e; rw [e] at hl; simp at hl
    have h1 := List.dropLast_concat_getLast hne
    have h2 : S.free.getLast hne = i := by
      rw [List.getLast_eq_getElem]
      have := (List.getElem?_eq_some_iff.1 hil).2
      rw [← this]
      congr 1
      omega
    rw [h2] at h1
    exact h1.symm
  have hg := GrS.add_set (n := n) hin S.free.dropLast
  have hx := S.g.add_ext (n := n) (by omega : i ≠ 0) hnone
  obtain ⟨nb', ncap', ncur, en, hnb, hob, hngb, hncap, hncm, hncs, hntk⟩ := h.nodesBlock
  simp only [Value.slice.injEq, Option.some.injEq, Addr.mk.injEq, and_true, true_and] at en
  obtain ⟨rfl, rfl⟩ := en
  have hfr := h.free.1
  rw [List.length_map] at hfr
  rcases hfr.2 with ⟨e0, h0⟩ | ⟨fb', fcap', fcur, efv, hfb, hfg, hfc, hfcm, hfcs, hft⟩
  · omega
  simp only [Value.slice.injEq, Option.some.injEq, Addr.mk.injEq, and_true, true_and] at efv
  obtain ⟨rfl, efl, rfl⟩ := efv
  have hgl := h.lt gb h.self
  -- the blocks
  have hbx := (Below.refl w.heap.size w).alloc (Nat.le_refl _) (.cells #[.int .i64 (n.v : Int), .int .i64 (n.t : Int), .int .i64 (n.e : Int)] 214)
  obtain ⟨W0, hW0⟩ : ∃ W0, W0 = w.alloc (.cells #[.int .i64 (n.v : Int), .int .i64 (n.t : Int), .int .i64 (n.e : Int)] 214) := ⟨_, rfl⟩
  rw [← hW0] at hW2 hbx
  clear hW0
  have hother : ∀ b, b < w.heap.size → b ≠ nb → b ≠ gb → W2.heap[b]? = w.heap[b]? := by
    intro b hb h1 h2
    rw [hW2, Below.heap_setCell _ _ _ _ h1, Below.heap_setCell _ _ _ _ h1, Below.heap_setCell _ _ _ _ h1, Below.heap_setCell _ _ _ _ h2]
    exact hbx.block b hb
  have hgc : W2.heap[gb]? = some (.cells #[ov, .slice (some ⟨nb, 0, none⟩) S.nl.length ncap, .map (some mb), .slice (some ⟨fb, 0, none⟩) l fcap, .map (some rb)] 156 (0, 0)) := by
    rw [hW2, Below.heap_setCell _ _ _ _ hngb.symm, Below.heap_setCell _ _ _ _ hngb.symm, Below.heap_setCell _ _ _ _ hngb.symm, heap_setCell_at ((hbx.block gb hgl).trans h.cells)]
    rfl
  have hnbl : nb < w.heap.size := (Array.getElem?_eq_some_iff.1 hnb).1
  have hnc : W2.heap[nb]? = some (.cells (((ncur.setIfInBounds (i * 3) (.int .i64 (n.v : Int))).setIfInBounds (i * 3 + 1) (.int .i64 (n.t : Int))).setIfInBounds (i * 3 + 2) (.int .i64 (n.e : Int))) 214 (0, 0)) := by
    rw [hW2]
    refine heap_setCell_at (heap_setCell_at (heap_setCell_at ?_))
    rw [Below.heap_setCell _ _ _ _ hngb]
    exact (hbx.block nb hnbl).trans hnb
  have hW2s : w.heap.size ≤ W2.heap.size := by
    rw [hW2]; simp only [World.setCell, Array.size_modify]; exact hbx.size
  have hw' : ∀ b, b < w.heap.size → b ≠ mb → w'.heap[b]? = W2.heap[b]? := fun b hb hne => a2.1.block b (by omega) (by simp; exact hne)
  have hmaps := h.maps_ne
  have hon : Only O w w' := by
    have o0 : Only O w W0 := only_of_below hbx O
    have o1 : Only O w W2 := by
      rw [hW2]
      exact (((o0.setCell (p := ⟨gb, 3, none⟩) (.inl h.self) _).setCell (p := ⟨nb, i * 3, none⟩) (.inl hob) _).setCell (p := ⟨nb, i * 3 + 1, none⟩) (.inl hob) _).setCell (p := ⟨nb, i * 3 + 2, none⟩) (.inl hob) _
    exact o1.grown a2.1 (fun k hk => by simp at hk; subst hk; exact .inl h.om)
  have hnd := h.fdup
  rw [hdrop, List.nodup_append] at hnd
  have hmem : ∀ j, j ∈ S.free ↔ j ∈ S.free.dropLast ∨ j = i := by
    intro j
    conv => lhs; rw [hdrop]
    simp
  have hcompl : S.Full → (GrS.mk S.order (S.nl.set i (some n)) S.free.dropLast (fun j => if j = i then iteT (mask n.v) (S.g.tab n.t) (S.g.tab n.e) else S.sem j) S.ov).Full := by
    intro hfull j q1 q2 q3
    rw [hg] at q3
    simp only [List.length_set] at q2
    by_cases hji : j = i
    · subst hji; rw [Gr.add_node] at q3; cases q3
    · simp [Gr.add, hji] at q3
      exact ((hmem j).1 (hfull j q1 q2 q3)).resolve_right hji
  refine ⟨i, ⟨S.order, S.nl.set i (some n), S.free.dropLast, fun j => if j = i then iteT (mask n.v) (S.g.tab n.t) (S.g.tab n.e) else S.sem j, S.ov⟩, rfl, ⟨hon, O, ⟨ov, .slice (some ⟨nb, 0, none⟩) S.nl.length ncap, .slice (some ⟨fb, 0, none⟩) l fcap, mb, rb, M', R, ?_⟩, Grows.refl _ _⟩, ⟨hg, by omega, hnone, by simp, by simp, .inr (by simp), fun e => by rw [e] at hl; simp at hl, rfl, hcompl⟩⟩
  have hfne : fb ≠ nb ∧ fb ≠ gb := by
    constructor
    · intro e; subst e; rw [hfg] at hnb; simp at hnb
    · intro e; subst e; have := h.cells; rw [hfg] at this; simp at this
  have hfbl : fb < w.heap.size := (Array.getElem?_eq_some_iff.1 hfg).1
  have hov : ∀ b, ov.ownBlock = some b → b < w.heap.size ∧ b ≠ nb ∧ b ≠ gb ∧ b ≠ mb := by
    intro b hb
    obtain ⟨cur, hc⟩ := h.order.block hb
    refine ⟨(Array.getElem?_eq_some_iff.1 hc).1, ?_, ?_, (hmaps b _ _ _ hc).1⟩
    · intro e; subst e; rw [hc] at hnb; simp at hnb
    · intro e; subst e; have := h.cells; rw [hc] at this; simp at this
  refine { lt := fun b hb => Nat.lt_of_lt_of_le (h.lt b hb) hon.size, eov := h.eov, self := h.self, om := h.om, orr := h.orr, cells := ?_, order := ?_, nodes := ?_, nin := h.nin, free := ?_, nums := a1, res := ?_, mok := ?_, rok := ?_, rlen := h.rlen, mr := h.mr, of := ?_, n1 := ?_, nlen := ?_, ol := h.ol, fdup := ?_, fok := ?_ }
  · rw [hw' gb hgl (hmaps gb _ _ _ h.cells).1]; exact hgc
  · refine h.order.same ?_
    intro b hb
    obtain ⟨b1, b2, b3, b4⟩ := hov b hb
    rw [hw' b b1 b4, hother b b1 b2 b3]
  · show w'.ownsRow 0 214 3 (.slice (some ⟨nb, 0, none⟩) S.nl.length ncap) (S.nl.set i (some n)).length ((S.nl.set i (some n)).flatMap ndCells)
    rw [List.length_set]
    refine ⟨by rw [flat3_len, List.length_set], .inr ⟨nb, ncap, _, rfl, Nat.zero_le _, (hw' nb hnbl (hmaps nb _ _ _ hnb).1).trans hnc, hncap, hncm, by simpa using hncs, ?_⟩⟩
    rw [← flat3_set _ _ hin, ← hntk]
    simp only [Array.toList_setIfInBounds]
    rw [List.take_set, List.take_set, List.take_set]
  · refine ⟨?_, ?_⟩
    · rw [List.length_map, List.length_dropLast, hl, Nat.add_sub_cancel]
      refine ⟨by rw [List.length_map, List.length_dropLast, hl]; omega, .inr ⟨fb, fcap, fcur, rfl, Nat.zero_le _, ?_, by omega, hfcm, hfcs, ?_⟩⟩
      · rw [hw' fb hfbl (hmaps fb _ _ _ hfg).1, hother fb hfbl hfne.1 hfne.2]; exact hfg
      · rw [hl] at hft
        have h2 : fcur.toList.take (l * 1) = (fcur.toList.take ((l + 1) * 1)).take l := by rw [List.take_take]; congr 1; omega
        rw [h2, hft, hdrop, List.map_append, List.take_append_of_le_length (by simp [hl])]
        rw [List.take_of_length_le (by simp [hl])]
        simp
    · intro b hb
      exact h.free.2 b hb
  · refine h.res.same ?_
    rw [a2.1.block rb (by have := h.lt rb h.orr; omega) (by simp; exact h.mr.symm)]
    obtain ⟨es, clock, hq, _⟩ := h.res
    refine hother rb (h.lt rb h.orr) ?_ ?_
    · intro e; rw [e, hnb] at hq; cases hq
    · intro e; rw [e, h.cells] at hq; cases hq
  · exact added_mok hg hnone hnew h.mok a3
  · have := ext_rok hx h.rok
    rw [← hg] at this
    exact this
  · exact h.of
  · show 1 ≤ (S.nl.set i (some n)).length
    rw [List.length_set]; exact h.n1
  · show (S.nl.set i (some n)).length ≤ 100000
    rw [List.length_set]; exact h.nlen
  · exact (List.dropLast_sublist _).nodup h.fdup
  · intro j hj
    show 0 < j ∧ j < (S.nl.set i (some n)).length ∧ (GrS.g _).node j = none
    rw [hg, List.length_set]
    have hji : j ≠ i := fun e => hnd.2.2 j hj i (by simp) e
    obtain ⟨q1, q2, q3⟩ := h.fok j ((hmem j).2 (.inl hj))
    exact ⟨q1, q2, by simp [Gr.add, hji, q3]⟩

end Go.Proofs.YtebfmcafmojlaaaGreatDoor

/-
  graph: add (no number free), and both together.
-/
namespace Go.Proofs.YtebfmcafmojlaaaGreatDoor
open Go.RowKit Go.Maps
set_option linter.unusedSimpArgs false
set_option linter.unusedVariables false

theorem graphAdd_new_is {O : Nat → Prop} {w : World} {gb : Nat} {S : GrS} {ov nv fv : Value} {mb rb : Nat} {M R : List (Value × Value)} (h : GrAt O w gb S ov nv fv mb rb M R) (n : Nd) (hv : n.v < 100000) (ht : n.t < refMax) (he : n.e < refMax) (hnew : ∀ j, S.g.node j ≠ some n) (hl : S.free = []) (hnl : S.nl.length + 1 ≤ 100000) :
    Calls Tryz.prog 148 #[.pointer (some ⟨gb, 0, none⟩), ndKey n] w fun e w' => ∃ i S', e = .returned (.int .i64 (i : Nat)) ∧ GrStep O w gb w' S' ∧ S.Added n i S' := by
  refine (graphAdd_new h n hv ht he hl hnl).mono ?_
  rintro e w' ⟨v', M', w1, rfl, hown', honly, hpl, a1, a2, a3⟩
  have hnone : S.g.node S.nl.length = none := by
    show S.nl.getD S.nl.length none = none
    rw [List.getD_eq_getElem?_getD, List.getElem?_eq_none (Nat.le_refl _)]; rfl
  have hn1 := h.n1
  have hg := GrS.add_snoc (S := S) (n := n) []
  have hx := S.g.add_ext (n := n) (by omega : S.nl.length ≠ 0) hnone
  obtain ⟨nb, ncap, ncur, en, hnb, hob, hngb, hncap, hncm, hncs, hntk⟩ := h.nodesBlock
  have hnvb : ∀ b, nv.ownBlock = some b → b = nb := by intro b hb; rw [en] at hb; simp [Value.ownBlock] at hb; exact hb.symm
  have hgl := h.lt gb h.self
  have hnbl : nb < w.heap.size := (Array.getElem?_eq_some_iff.1 hnb).1
  have hv'g : ∀ b, v'.ownBlock = some b → b ≠ gb := by
    intro b hb
    rcases hpl b hb with e | e
    · rw [hnvb b e]; exact hngb
    · omega
  obtain ⟨W2, hW2⟩ : ∃ W2, W2 = w1.setCell ⟨gb, 1, none⟩ v' := ⟨_, rfl⟩
  rw [← hW2] at a2
  have hmaps := h.maps_ne
  have h1b : ∀ b, b < w.heap.size → b ≠ nb → w1.heap[b]? = w.heap[b]? := fun b hb hne => honly.block b hb (fun e => hne (hnvb b e))
  have hother : ∀ b, b < w.heap.size → b ≠ nb → b ≠ gb → W2.heap[b]? = w.heap[b]? := by
    intro b hb h1 h2
    rw [hW2, Below.heap_setCell _ _ _ _ h2]
    exact h1b b hb h1
  have hgc : W2.heap[gb]? = some (.cells #[ov, v', .map (some mb), fv, .map (some rb)] 156 (0, 0)) := by
    rw [hW2, heap_setCell_at ((h1b gb hgl hngb.symm).trans h.cells)]
    rfl
  have hW2s : w1.heap.size = W2.heap.size := by rw [hW2]; simp [World.setCell]
  have hs1 := honly.size
  have hw' : ∀ b, b < W2.heap.size → b ≠ mb → w'.heap[b]? = W2.heap[b]? := fun b hb hne => a2.1.block b hb (by simp; exact hne)
  have hon : Only O w w' := by
    have o1 : Only O w w1 := honly.mono (fun b hb => by rw [hnvb b hb]; exact hob)
    have o2 : Only O w W2 := by rw [hW2]; exact o1.setCell (p := ⟨gb, 1, none⟩) (.inl h.self) _
    exact o2.grown a2.1 (fun k hk => by simp at hk; subst hk; exact .inl h.om)
  have hmlt := h.lt mb h.om
  have hrlt := h.lt rb h.orr
  have hv'm : ∀ b, v'.ownBlock = some b → b ≠ mb ∧ b < W2.heap.size := by
    intro b hb
    obtain ⟨cur, hc⟩ := row_block hown' hb
    refine ⟨?_, by rw [← hW2s]; exact (Array.getElem?_eq_some_iff.1 hc).1⟩
    rcases hpl b hb with e | e
    · rw [hnvb b e]; exact (hmaps nb _ _ _ hnb).1
    · omega
  have hfree : S.free.map natv = [] := by rw [hl]; rfl
  have hcompl : S.Full → (GrS.mk S.order (S.nl ++ [some n]) [] (fun j => if j = S.nl.length then iteT (mask n.v) (S.g.tab n.t) (S.g.tab n.e) else S.sem j) S.ov).Full := by
    intro hfull j q1 q2 q3
    exfalso
    rw [hg] at q3
    simp at q2
    by_cases hj : j = S.nl.length
    · subst hj; rw [Gr.add_node] at q3; cases q3
    · simp [Gr.add, hj] at q3
      have := hfull j q1 (by omega) q3
      rw [hl] at this
      simp at this
  refine ⟨S.nl.length, ⟨S.order, S.nl ++ [some n], [], fun j => if j = S.nl.length then iteT (mask n.v) (S.g.tab n.t) (S.g.tab n.e) else S.sem j, S.ov⟩, rfl, ⟨hon, fun b => O b ∨ v'.ownBlock = some b, ⟨ov, v', fv, mb, rb, M', R, ?_⟩, ?_⟩, ⟨hg, by omega, hnone, by simp, by simp, .inl rfl, fun _ => rfl, rfl, hcompl⟩⟩
  · refine { lt := ?_, eov := h.eov, self := .inl h.self, om := .inl h.om, orr := .inl h.orr, cells := ?_, order := ?_, nodes := ?_, nin := fun k hk => .inr hk, free := ?_, nums := a1, res := ?_, mok := ?_, rok := ?_, rlen := h.rlen, mr := h.mr, of := h.of, n1 := by simp, nlen := by simp; omega, ol := h.ol, fdup := by simp, fok := ?_ }
    · rintro b (hb | hb)
      · exact Nat.lt_of_lt_of_le (h.lt b hb) hon.size
      · exact Nat.lt_of_lt_of_le (hv'm b hb).2 a2.1.size
    · rw [hw' gb (by omega) (hmaps gb _ _ _ h.cells).1]; exact hgc
    · refine (h.order.mono (O' := fun b => O b ∨ v'.ownBlock = some b) (fun b hb => .inl hb)).same ?_
      intro b hb
      obtain ⟨cur, hc⟩ := h.order.block hb
      have hbl := (Array.getElem?_eq_some_iff.1 hc).1
      rw [hw' b (by omega) (hmaps b _ _ _ hc).1, hother b hbl ?_ ?_]
      · intro e; subst e; rw [hc] at hnb; simp at hnb
      · intro e; subst e; have := h.cells; rw [hc] at this; simp at this
    · show w'.ownsRow 0 214 3 v' (S.nl ++ [some n]).length ((S.nl ++ [some n]).flatMap ndCells)
      rw [flat3_snoc, List.length_append, List.length_singleton]
      refine owns_same hown' ?_
      intro b hb
      rw [hw' b (hv'm b hb).2 (hv'm b hb).1, hW2, Below.heap_setCell _ _ _ _ (hv'g b hb)]
    · show Row _ w' 3 fv ([].map natv)
      have hf := h.free
      rw [hfree] at hf
      refine (hf.mono (O' := fun b => O b ∨ v'.ownBlock = some b) (fun b hb => .inl hb)).same ?_
      intro b hb
      obtain ⟨cur, hc⟩ := hf.block hb
      have hbl := (Array.getElem?_eq_some_iff.1 hc).1
      rw [hw' b (by omega) (hmaps b _ _ _ hc).1, hother b hbl ?_ ?_]
      · intro e; subst e; rw [hc] at hnb; simp at hnb
      · intro e; subst e; have := h.cells; rw [hc] at this; simp at this
    · refine h.res.same ?_
      rw [hw' rb (by omega) h.mr.symm]
      obtain ⟨es, clock, hq, _⟩ := h.res
      refine hother rb hrlt ?_ ?_
      · intro e; rw [e, hnb] at hq; cases hq
      · intro e; rw [e, h.cells] at hq; cases hq
    · exact added_mok hg hnone hnew h.mok a3
    · have := ext_rok hx h.rok
      rw [← hg] at this
      exact this
    · intro j hj; simp at hj
  · rintro b (hb | hb)
    · exact .inl hb
    · rcases hpl b hb with e | e
      · exact .inl (h.nin b e)
      · exact .inr e

theorem graphAdd_is {O : Nat → Prop} {w : World} {gb : Nat} {S : GrS} (hG : GrIs O w gb S) (n : Nd) (hv : n.v < 100000) (ht : n.t < refMax) (he : n.e < refMax) (hnew : ∀ j, S.g.node j ≠ some n) (hnl : S.nl.length + 1 ≤ 100000) :
    Calls Tryz.prog 148 #[.pointer (some ⟨gb, 0, none⟩), ndKey n] w fun e w' => ∃ i S', e = .returned (.int .i64 (i : Nat)) ∧ GrStep O w gb w' S' ∧ S.Added n i S' := by
  obtain ⟨ov, nv, fv, mb, rb, M, R, h⟩ := hG
  cases hf : S.free.length with
  | zero => exact graphAdd_new_is h n hv ht he hnew (List.eq_nil_of_length_eq_zero hf) hnl
  | succ l => exact graphAdd_old_is h n hv ht he hnew l hf

end Go.Proofs.YtebfmcafmojlaaaGreatDoor

/-
  graph: join.
-/
namespace Go.Proofs.YtebfmcafmojlaaaGreatDoor
open Go.RowKit Go.Maps
set_option linter.unusedSimpArgs false
set_option linter.unusedVariables false

def JoinPost (S : GrS) (v t e r : Nat) (S' : GrS) : Prop :=
  (t = e ∧ r = t ∧ S' = S) ∨ (t ≠ e ∧ ∃ i, S.g.node i = some (joinN v t e) ∧ r = tl (2 * i) t ∧ S' = S) ∨
  (t ≠ e ∧ (∀ j, S.g.node j ≠ some (joinN v t e)) ∧ ∃ i, r = tl (2 * i) t ∧ S.Added (joinN v t e) i S')

theorem zero_int (w : World) : (zeroValue 3).run Tryz.prog w = .ok (.int .i64 0) w := by kernel_rfl
theorem zero_ref (w : World) : (zeroValue 80).run Tryz.prog w = .ok (.int .i64 0) w := by kernel_rfl

set_option maxHeartbeats 400000 in
set_option maxRecDepth 10000 in
theorem graphJoin_is {O : Nat → Prop} {w : World} {gb : Nat} {S : GrS} (hG : GrIs O w gb S) (v t e : Nat) (hv : v < 100000) (ht : t < 400000) (he : e < 400000) (hnl : S.nl.length + 1 ≤ 100000) :
    Calls Tryz.prog 97 #[.pointer (some ⟨gb, 0, none⟩), .int .i64 v, .int .i64 t, .int .i64 e] w fun e' w' => ∃ r S', e' = .returned (.int .i64 (r : Nat)) ∧ GrStep O w gb w' S' ∧ JoinPost S v t e r S' := by
  by_cases hte : t = e
  · subst hte
    have heq : ((t : Int) == (t : Int)) = true := by simp
    have HG : Hid (GrIs O w gb S) := hG
    clear hG
    go_enter Tryz.func97, Tryz.ntmps97
    go_wp2
    go_ret
    exact ⟨t, S, rfl, GrIs.step HG.out (Below.refl _ _), .inl ⟨rfl, rfl, rfl⟩⟩
  · have heq := eq_nat t e
    have hb : (t == e) = false := by simp [hte]
    rw [hb] at heq
    clear hb
    have htm : t < refMax := by unfold refMax; omega
    have hem : e < refMax := by unfold refMax; omega
    have hplain := refPlain_is t htm
    have hturn := refTurnedLike_is e t hem htm
    have hjt : (joinN v t e).t < refMax := by show t - t % 2 < refMax; omega
    have hje : (joinN v t e).e < refMax := by
      show tl e t < refMax
      unfold tl refMax; split; omega; split <;> omega
    have hkey := node_key_ok v (t - t % 2) (tl e t) (by unfold refMax; omega) hjt hje
    have hbw := (Below.refl w.heap.size w).alloc (Nat.le_refl _) (.cells #[.int .i64 (v : Int), .int .i64 ((t - t % 2 : Nat) : Int), .int .i64 ((tl e t : Nat) : Int)] 214)
    obtain ⟨ov, nv, fv, mb, rb, M, R, h⟩ := hG
    obtain ⟨c0, c1, c2, c3, c4⟩ := h.c
    have hgb := h.lt gb h.self
    obtain ⟨x, hx⟩ : ∃ x, x = t - t % 2 := ⟨_, rfl⟩
    obtain ⟨y, hy⟩ : ∃ y, y = tl e t := ⟨_, rfl⟩
    rw [← hx] at hplain hkey hbw
    rw [← hy] at hturn hkey hbw
    obtain ⟨W0, hW0⟩ : ∃ W0, W0 = w.alloc (.cells #[.int .i64 (v : Int), .int .i64 (x : Int), .int .i64 (y : Int)] 214) := ⟨_, rfl⟩
    have hbxc : W0.heap[w.heap.size]? = some (.cells #[.int .i64 (v : Int), .int .i64 (x : Int), .int .i64 (y : Int)] 214 (0, 0)) := by rw [hW0]; exact heap_alloc_new w _
    rw [← hW0] at hbw
    have k2 := (hbw.cell (p := ⟨gb, 2, none⟩) hgb).trans c2
    have p0 : W0.cell? ⟨w.heap.size, 0, none⟩ = some (.int .i64 (v : Int)) := by rw [cell_of_heap hbxc]; rfl
    have p1 : W0.cell? ⟨w.heap.size, 1, none⟩ = some (.int .i64 (x : Int)) := by rw [cell_of_heap hbxc]; rfl
    have p2 : W0.cell? ⟨w.heap.size, 2, none⟩ = some (.int .i64 (y : Int)) := by rw [cell_of_heap hbxc]; rfl
    have hjn : joinN v t e = ⟨v, x, y⟩ := by unfold joinN; rw [hx, hy]
    have h0 := h.below hbw
    rcases (h0.nums.same (w' := W0.drew) rfl).look node_keyed Tryz.underlying153 (zero_int _) true hkey with ⟨u, hu, hrun⟩ | ⟨hno, hrun⟩
    · obtain ⟨i, n, hn, en⟩ := (h.mok _).1 hu
      simp only [Prod.mk.injEq] at en
      obtain ⟨en1, rfl⟩ := en
      have en2 : n = ⟨v, x, y⟩ := ndKey_inj en1.symm
      subst en2
      have hil := GrS.node_lt hn
      have hfin : ∀ w', Below w.heap.size w w' → ∃ r S', Ending.returned (.int .i64 ((tl (2 * i) t : Nat) : Int)) = .returned (.int .i64 (r : Nat)) ∧ GrStep O w gb w' S' ∧ JoinPost S v t e r S' := fun w' hb => ⟨tl (2 * i) t, S, rfl, (GrIs.step ⟨_, _, _, _, _, _, _, h⟩ hb), .inr (.inl ⟨hte, i, by rw [hjn]; exact hn, rfl, rfl⟩)⟩
      have hi5 : i < 100000 := by omega
      have htu := refTurnedLike_is (2 * i) t (by unfold refMax; omega) htm
      have HF : Hid _ := hfin
      have HB : Hid (Below w.heap.size w W0) := hbw
      simp only [Int.natCast_mul, Int.cast_ofNat_Int] at htu
      unfold mapTold natv at hrun
      unfold key3 at hrun
      simp only [if_true] at hrun
      clear hfin hbw h h0 hu hn hil hte htm hem hjt hje hkey hbxc hx hy hjn hnl hv ht he c0 c1 c2 c3 c4 hgb en1
      go_enter Tryz.func97, Tryz.ntmps97
      go_wp2_with (first
        | (go_at_call 133; refine (hplain _).mono ?_; rintro e' w1 ⟨rfl, hq⟩; replace hq := hq.symm; subst hq)
        | (go_at_call 134; refine (hturn _).mono ?_; rintro e' w1 ⟨rfl, hq⟩; replace hq := hq.symm; subst hq))
      rw [← hW0]
      clear hW0
      go_region
      all_goals
        go_wp2_with (go_at_call 134; refine (htu _).mono ?_; rintro e' w1 ⟨rfl, hq⟩; replace hq := hq.symm; subst hq)
        go_ret
        exact HF.out _ HB.out.drew
    · have hnew : ∀ j, S.g.node j ≠ some ⟨v, x, y⟩ := fun j hj => hno (natv j) ((h.mok _).2 ⟨j, _, hj, rfl⟩)
      have hjt' : x < refMax := by rw [hx]; exact hjt
      have hje' : y < refMax := by rw [hy]; exact hje
      have hadd := graphAdd_is (O := O) (w := W0.drew) (gb := gb) (S := S) ⟨_, _, _, _, _, _, _, h.below hbw.drew⟩ ⟨v, x, y⟩ hv hjt' hje' hnew hnl
      have htu : ∀ i : Nat, i < 100000 → ∀ w, Calls Tryz.prog 134 #[.int .i64 (2 * (i : Int)), .int .i64 t] w fun e w' => e = .returned (.int .i64 (tl (2 * i) t : Nat)) ∧ w' = w := by
        intro i hi w
        have := refTurnedLike_is (2 * i) t (by unfold refMax; omega) htm w
        simp only [Int.natCast_mul, Int.cast_ofNat_Int] at this
        exact this
      have hfin : ∀ i S' w', GrStep O W0.drew gb w' S' → S.Added ⟨v, x, y⟩ i S' → ∃ r S', Ending.returned (.int .i64 ((tl (2 * i) t : Nat) : Int)) = .returned (.int .i64 (r : Nat)) ∧ GrStep O w gb w' S' ∧ JoinPost S v t e r S' := fun i S' w' hs ha => ⟨tl (2 * i) t, S', rfl, hs.pre hbw.drew, .inr (.inr ⟨hte, by rw [hjn]; exact hnew, i, rfl, by rw [hjn]; exact ha⟩)⟩
      have hsm : ∀ i S', S.Added ⟨v, x, y⟩ i S' → i < 100000 := by
        intro i S' ha
        have h1 : S'.g.node i = some ⟨v, x, y⟩ := by rw [ha.g]; exact Gr.add_node _ _ _
        have := GrS.node_lt h1
        have := ha.len
        omega
      have HF : Hid _ := hfin
      unfold ndKey key3 at hadd
      unfold mapTold at hrun
      unfold key3 at hrun
      simp only [if_true] at hrun
      simp only at hadd
      clear hfin hbw h h0 hno hte htm hem hjt hje hjt' hje' hkey hbxc hx hy hjn hnl hv ht he c0 c1 c2 c3 c4 hgb hnew
      go_enter Tryz.func97, Tryz.ntmps97
      go_wp2_with (first
        | (go_at_call 133; refine (hplain _).mono ?_; rintro e' w1 ⟨rfl, hq⟩; replace hq := hq.symm; subst hq)
        | (go_at_call 134; refine (hturn _).mono ?_; rintro e' w1 ⟨rfl, hq⟩; replace hq := hq.symm; subst hq))
      rw [← hW0]
      clear hW0
      go_region
      all_goals
        go_wp2_with (first
          | (go_at_call 148; refine hadd.mono ?_; rintro e' w1 ⟨i, S', rfl, hs, ha⟩; have hi5 := hsm i S' ha; have htui := htu i hi5; have HFi := HF.out i S' w1 hs ha; have HFI : Hid _ := HFi; clear HFi hs ha htu hsm HF)
          | (go_at_call 134; refine (htui _).mono ?_; rintro e' w2 ⟨rfl, hq⟩; replace hq := hq.symm; subst hq))
        go_ret
        exact HFI.out

end Go.Proofs.YtebfmcafmojlaaaGreatDoor

/-
  What a call of the graph comes to.
-/
namespace Go.Proofs.YtebfmcafmojlaaaGreatDoor
open Go.RowKit Go.Maps
set_option linter.unusedSimpArgs false
set_option linter.unusedVariables false

/-- From S a call came to S', and to r, which tells F: no nodes are new but r's, and at most d numbers are. -/
structure GrS.Went (S S' : GrS) (r : Nat) (F : Tab) (d : Nat) : Prop where
  made : S.g.Made S'.g r
  tab : S'.g.tab r = F
  len : S'.nl.length ≤ S.nl.length + d
  le : S.nl.length ≤ S'.nl.length
  full : S'.free = [] ∨ S'.nl.length = S.nl.length
  mono : S.free = [] → S'.free = []
  ov : S'.ov = S.ov
  compl : S.Full → S'.Full

theorem GrS.Went.refl {S : GrS} (k : S.g.Ok) {r : Nat} (h : S.g.ok r) (d : Nat) : S.Went S r (S.g.tab r) d :=
  ⟨Gr.Made.refl k h, rfl, by omega, Nat.le_refl _, .inr rfl, id, rfl, id⟩

theorem GrS.Went.ok {S S' : GrS} {r : Nat} {F : Tab} {d : Nat} (h : S.Went S' r F d) : S'.g.Ok := h.made.good
theorem GrS.Went.order {S S' : GrS} {r : Nat} {F : Tab} {d : Nat} (h : S.Went S' r F d) : S'.g.order = S.g.order := h.made.ext.order

theorem GrS.Went.join {S S1 S2 S3 : GrS} {v t e r d1 d2 : Nat} {T E : Tab} (h1 : S.Went S1 t T d1) (h2 : S1.Went S2 e E d2) (hj : JoinPost S2 v t e r S3) (hv : v ∈ S.g.order)
    (hT : ∀ u ∈ S.g.order, S.g.idx u ≤ S.g.idx v → hangs T u = false) (hE : ∀ u ∈ S.g.order, S.g.idx u ≤ S.g.idx v → hangs E u = false) : S.Went S3 r (iteT (mask v) T E) (d1 + d2 + 1) := by
  have x12 := h1.made.ext.trans h2.made.ext
  have tok2 : S2.g.ok t := h2.made.ext.ok h1.made.ok
  have tt2 : S2.g.tab t = T := by rw [h2.made.ext.tab h1.made.ok]; exact h1.tab
  have hv2 : v ∈ S2.g.order := by rw [x12.order]; exact hv
  have hlt : S2.g.idx v < S2.g.order.length := List.idxOf_lt_length_of_mem hv2
  have lt : S2.g.idx v < S2.g.lev t := h2.ok.lev_gt tok2 hlt (fun u hu hi => by
    rw [tt2]
    refine hT u (by rw [← x12.order]; exact hu) ?_
    rw [← x12.idx, ← x12.idx]; exact hi)
  have le : S2.g.idx v < S2.g.lev e := h2.ok.lev_gt h2.made.ok hlt (fun u hu hi => by
    rw [h2.tab]
    refine hE u (by rw [← x12.order]; exact hu) ?_
    rw [← x12.idx, ← x12.idx]; exact hi)
  have l1 := h1.len; have l2 := h2.len; have e1 := h1.le; have e2 := h2.le
  rcases hj with ⟨rfl, rfl, rfl⟩ | ⟨hne, i, hi, rfl, rfl⟩ | ⟨hne, hnew, i, rfl, ha⟩
  · refine ⟨Gr.Made.join_same h1.made h2.made, ?_, by omega, by omega, ?_, fun e => h2.mono (h1.mono e), h2.ov.trans h1.ov, fun e => h2.compl (h1.compl e)⟩
    · rw [h2.tab]
      have : E = T := by rw [← h2.tab, tt2]
      rw [this, iteT_same]
    · rcases h1.full with e | e
      · exact .inl (h2.mono e)
      · rcases h2.full with e' | e'
        · exact .inl e'
        · exact .inr (by omega)
  · obtain ⟨m, htab⟩ := Gr.Made.join_found h1.made h2.made hi
    refine ⟨m, by rw [htab, tt2, h2.tab], by omega, by omega, ?_, fun e => h2.mono (h1.mono e), h2.ov.trans h1.ov, fun e => h2.compl (h1.compl e)⟩
    rcases h1.full with e | e
    · exact .inl (h2.mono e)
    · rcases h2.full with e' | e'
      · exact .inl e'
      · exact .inr (by omega)
  · obtain ⟨m, htab, _, _⟩ := Gr.Made.join_new h1.made h2.made hne hv2 lt le ha.i0 ha.none hnew
    rw [← ha.g] at m htab
    have a1 := ha.len; have a2 := ha.le
    refine ⟨m, by rw [htab, tt2, h2.tab], by omega, by omega, ?_, fun e => ha.mono (h2.mono (h1.mono e)), ha.ov.trans (h2.ov.trans h1.ov), fun e => ha.compl (h2.compl (h1.compl e))⟩
    rcases h1.full with e | e
    · exact .inl (ha.mono (h2.mono e))
    · rcases h2.full with e' | e'
      · exact .inl (ha.mono e')
      · rcases ha.full with e'' | e''
        · exact .inl e''
        · exact .inr (by omega)

theorem GrS.Went.mono_d {S S' : GrS} {r : Nat} {F : Tab} {d d' : Nat} (h : S.Went S' r F d) (hd : d ≤ d') : S.Went S' r F d' := ⟨h.made, h.tab, by have := h.len; omega, h.le, h.full, h.mono, h.ov, h.compl⟩

theorem GrIs.bound {O : Nat → Prop} {w : World} {gb : Nat} {S : GrS} (h : GrIs O w gb S) {r : Nat} (hr : S.g.ok r) : r < 400000 := by
  obtain ⟨ov, nv, fv, mb, rb, M, R, h⟩ := h
  exact h.small hr

theorem GrIs.ol {O : Nat → Prop} {w : World} {gb : Nat} {S : GrS} (h : GrIs O w gb S) : S.g.order.length ≤ 6 := by
  obtain ⟨ov, nv, fv, mb, rb, M, R, h⟩ := h
  exact h.ol

theorem GrIs.undrew {O : Nat → Prop} {w : World} {gb : Nat} {S : GrS} (h : GrIs O w gb S) : GrIs O w.drew gb S := h.below (Below.refl _ _).drew

end Go.Proofs.YtebfmcafmojlaaaGreatDoor

