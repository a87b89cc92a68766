/-
  append to a slice that is full where it lies (or is the call's own), of a row that is read.
-/
import Derived.ArgAppend
import Derived.Test.YtebfmcafmojlaaaGreatDoorT06
import Derived.Test.YtebfmcafmojlaaaGreatDoorT36
import Derived.Test.YtebfmcafmojlaaaGreatDoorT35
import Derived.Test.YtebfmcafmojlaaaGreatDoorT27
import Derived.Test.YtebfmcafmojlaaaGreatDoorT30
namespace Go.Proofs.YtebfmcafmojlaaaGreatDoor
open Go.RowKit
set_option linter.unusedSimpArgs false
set_option linter.unusedVariables false

/-- A slice that is full where it lies, or a row of blocks from B on. -/
def Full (B b : Nat) (w : World) (e : TypeId) (v : Value) (xs : List Value) : Prop :=
  (∃ off, v = .slice (some ⟨b, off, none⟩) xs.length xs.length ∧ b < B ∧ ∀ i, i < xs.length → w.cell? ⟨b, off + i, none⟩ = some (xs.getD i undef)) ∨ w.ownsRow B e 1 v xs.length xs

theorem run_append_zero {P : Program} (w : World) (t ty e : TypeId) (i : TypeInfo) (ht : P.underlying t = some (.slice e)) (hi : P.info? e = some i) (base : Option Addr) (n : Nat) (a : Option Addr) (c : Nat) :
    (Builtin.append_ #[t, t] ty #[.slice base n n, .slice a 0 c]).run P w = .ok (.slice base n n) w := by
  cases base <;> cases a <;> simp [Builtin.append_, run_underlying ht, sizeOf, typeInfo, hi, Builtin.lenOf, Builtin.firstCells, loadCells, loadCellsFrom, storeCells, Result.andThen]

theorem run_append_full {P : Program} (w : World) (B b B' : Nat) (t ty e : TypeId) (i : TypeInfo) (z : Value) (bytes : Nat) (ht : P.underlying t = some (.slice e)) (hi : P.info? e = some i) (hz : i.zero = some z)
    (hsize : i.size = 1) (hby : i.bytes = bytes) (hzs : z.cells.size = 1)
    (v : Value) (xs : List Value) (hf : Full B b w e v xs) (x : Value) (ys : List Value) (hr : Reads B' w x ys) (h1 : ∀ u ∈ ys, u.oneCell' = true)
    (h63 : xs.length + ys.length ≤ maxLen) (hbytes : (xs.length + ys.length) * bytes ≤ 140737488355328) (hB : B ≤ w.heap.size) :
    ∃ v' w', (Builtin.append_ #[t, t] ty #[v, x]).run P w = .ok v' w' ∧ Full B b w' e v' (xs ++ ys) ∧ Below B w w' := by
  rcases hf with ⟨off, rfl, hb, hc⟩ | hown
  · rcases hr with ⟨rfl, rfl⟩ | ⟨b', off', cap', rfl, hb', hc'⟩
    · refine ⟨_, _, run_append_zero w t ty e i ht hi _ _ _ _, .inl ⟨off, by simp, hb, by simpa using hc⟩, Below.refl _ _⟩
    · by_cases h0 : ys = []
      · subst h0
        refine ⟨_, _, run_append_zero w t ty e i ht hi _ _ _ _, .inl ⟨off, by simp, hb, by simpa using hc⟩, Below.refl _ _⟩
      · have hlen : 0 < ys.length := List.length_pos_iff.2 h0
        obtain ⟨v', w', hr, ho, hg⟩ := run_append_arg_grows (P := P) (w := w) t ty e i z 1 bytes ht hi hz hsize hby hzs (by decide) ⟨b, off, none⟩ xs.length xs.length xs (by simp) (by
          intro j u hj
          have hjl : j < xs.length := (List.getElem?_eq_some_iff.1 hj).1
          have := hc j hjl
          rw [List.getD_eq_getElem?_getD, hj] at this
          simpa [Addr.add_lit] using this) ⟨b', off', none⟩ ys.length cap' ys (by simp) (by
          intro j u hj
          have hjl : j < ys.length := (List.getElem?_eq_some_iff.1 hj).1
          have := hc' j hjl
          rw [List.getD_eq_getElem?_getD, hj] at this
          simpa [Addr.add_lit] using this) (by omega) h63 hbytes
        refine ⟨v', w', hr, .inr ?_, (grown_nil hg).mono hB⟩
        rw [List.length_append]
        exact ownsRow_base ho hB
  · rcases hr with ⟨rfl, rfl⟩ | ⟨b', off', cap', rfl, hb', hc'⟩
    · refine ⟨v, w, run_append_owned_none (P := P) (w := w) B t ty e i 1 ht hi v _ _ hown, .inr (by simpa using hown), Below.refl _ _⟩
    · obtain ⟨v', w', hr, ho, hg, hz'⟩ := run_append_own (P := P) w B t ty e i z 1 bytes ht hi hz hsize hby hzs (by decide) v xs.length xs hown ⟨b', off', none⟩ ys.length cap' ys (by simp) (by
          intro j u hj
          have hjl : j < ys.length := (List.getElem?_eq_some_iff.1 hj).1
          have := hc' j hjl
          rw [List.getD_eq_getElem?_getD, hj] at this
          simpa [Addr.add_lit] using this) h1 h63 hbytes hB
      refine ⟨v', w', hr, .inr ?_, (Below.refl B w).grown hg hB (fun k hk => (hown.lt k hk).1)⟩
      rw [List.length_append]
      exact ho

theorem wpList_append_full {P : Program} {w : World} {ops : Array Oper} {rest : List Oper} {o : Oper} {a : Act} {Q : Exit → Act → World → Prop} (hgd : o.guard = none) (s x : Operand) (t : TypeId)
    (ho : o.op = .call { callee := .builtin .append, args := #[s, x], argTypes := #[t, t] })
    (B b B' : Nat) (e : TypeId) (i : TypeInfo) (z : Value) (bytes : Nat) (ht : P.underlying t = some (.slice e)) (hi : P.info? e = some i) (hz : i.zero = some z)
    (hsize : i.size = 1) (hby : i.bytes = bytes) (hzs : z.cells.size = 1)
    (v : Value) (xs : List Value) (hs : a.eval s = v) (hf : Full B b w e v xs) (xv : Value) (ys : List Value) (hx : a.eval x = xv) (hr : Reads B' w xv ys) (h1 : ∀ u ∈ ys, u.oneCell' = true)
    (h63 : xs.length + ys.length ≤ maxLen) (hbytes : (xs.length + ys.length) * bytes ≤ 140737488355328) (hB : B ≤ w.heap.size)
    (h : ∀ v' w', Full B b w' e v' (xs ++ ys) → Below B w w' → wpList P ops Q rest (a.put o.dst v') w') : wpList P ops Q (o :: rest) a w := by
  refine wpList_plain hgd fun K hK => ?_
  obtain ⟨v', w', hrun, h2, h3⟩ := run_append_full (P := P) w B b B' t o.type e i z bytes ht hi hz hsize hby hzs v xs hf xv ys hr h1 h63 hbytes hB
  unfold Oper.wp execOp
  simp only [ho, resolve, invoke, builtin, Sem.run_bind, Sem.run_pure, Result.andThen_ok, List.map_toArray, List.map_cons, List.map_nil, hs, hx, hrun]
  exact hK _ _ (h v' w' h2 h3)

theorem Full.reads {B b : Nat} {w : World} {e : TypeId} {v : Value} {xs : List Value} (h : Full B b w e v xs) (hB : B ≤ w.heap.size) : Reads w.heap.size w v xs := by
  rcases h with ⟨off, rfl, hb, hc⟩ | hown
  · exact .inr ⟨b, off, _, rfl, Nat.lt_of_lt_of_le hb hB, hc⟩
  · exact reads_of_owns hown

theorem Full.block {B b : Nat} {w : World} {e : TypeId} {v : Value} {xs : List Value} (h : Full B b w e v xs) : ∀ ad n c, v = .slice (some ad) n c → ad.block = b ∨ B ≤ ad.block := by
  intro ad n c hv
  rcases h with ⟨off, rfl, hb, hc⟩ | hown
  · cases hv
    exact .inl rfl
  · right
    rcases hown.2 with ⟨rfl, _⟩ | ⟨g, cap, cur, rfl, hg, _⟩
    · cases hv
    · cases hv
      exact hg

theorem Full.drew {B b : Nat} {w : World} {e : TypeId} {v : Value} {xs : List Value} (h : Full B b w e v xs) : ∃ ao n c, v = .slice ao n c := by
  rcases h with ⟨off, rfl, hb, hc⟩ | hown
  · exact ⟨_, _, _, rfl⟩
  · obtain ⟨ao, c, rfl⟩ := owns_form hown
    exact ⟨_, _, _, rfl⟩

end Go.Proofs.YtebfmcafmojlaaaGreatDoor

/-
  copseref: moved.
-/
namespace Go.Proofs.YtebfmcafmojlaaaGreatDoor
open Go.RowKit
set_option linter.unusedSimpArgs false
set_option linter.unusedVariables false

theorem full_owns {B : Nat} {w : World} {e : TypeId} {v : Value} {xs : List Value} (h : Full B B w e v xs) : w.ownsRow B e 1 v xs.length xs := by
  rcases h with ⟨_, _, hb, _⟩ | h
  · omega
  · exact h

theorem full_ownsN {B n : Nat} {w : World} {e : TypeId} {v : Value} {xs ys : List Value} (h : Full B B w e v xs) (hx : xs = ys) (hn : ys.length = n) : w.ownsRow B e 1 v n ys := by
  subst hx
  subst hn
  exact full_owns h
theorem full_ofN {B b n : Nat} {w : World} {e : TypeId} {v : Value} {ys : List Value} (h : w.ownsRow B e 1 v n ys) (hn : ys.length = n) : Full B b w e v ys := by
  subst hn
  exact .inr h

theorem part_reads {B : Nat} {w : World} {e : TypeId} {g cap n : Nat} {xs : List Value} (h : w.ownsRow B e 1 (.slice (some ⟨g, 0, none⟩) n cap) n xs) (i j c : Nat) (hij : i + j ≤ n) : Reads w.heap.size w (.slice (some ⟨g, i, none⟩) j c) ((xs.drop i).take j) := by
  have hl : xs.length = n := by have := h.1; omega
  have hjl : ((xs.drop i).take j).length = j := by rw [List.length_take, List.length_drop]; omega
  refine .inr ⟨g, i, c, by rw [hjl], (h.lt g rfl).2, ?_⟩
  intro k hk
  rw [hjl] at hk
  have hadd : ∀ m, (⟨g, 0, none⟩ : Addr).add m = ⟨g, m, none⟩ := by intro m; unfold Addr.add; split <;> simp_all
  have hc := h.cells (g := g) rfl (i + k) (xs.getD (i + k) undef) (by rw [List.getD_eq_getElem?_getD, List.getElem?_eq_getElem (by omega)]; rfl)
  rw [hadd] at hc
  rw [hc, List.getD_eq_getElem?_getD, List.getD_eq_getElem?_getD, List.getElem?_take, if_pos hk, List.getElem?_drop]

theorem built1_reads (w : World) (x : Nat) : Reads (w.heap.size + 1) (w.alloc (.cells #[intv x] 3)) (.slice (some ⟨w.heap.size, 0, none⟩) 1 1) [intv x] := by
  refine .inr ⟨w.heap.size, 0, 1, rfl, by omega, ?_⟩
  intro i hi
  have : i = 0 := by simpa using hi
  subst this
  have hh : (w.alloc (.cells #[intv x] 3)).heap[w.heap.size]? = some (.cells #[intv x] 3 (0, 0)) := heap_alloc_new w _
  rw [cell_of_heap hh]
  rfl

theorem filter_take_succ (V : List Nat) (v k : Nat) (h : k < V.length) : (V.take (k + 1)).filter (fun x => decide (x ≠ v)) = (V.take k).filter (fun x => decide (x ≠ v)) ++ (if V.getD k 0 ≠ v then [V.getD k 0] else []) := by
  rw [List.take_succ_eq_append_getElem h]
  have : V.getD k 0 = V[k] := by rw [List.getD_eq_getElem?_getD, List.getElem?_eq_getElem h]; rfl
  rw [this, List.filter_append]
  congr 1
  by_cases e : V[k] = v <;> simp [e]

set_option maxHeartbeats 2000000 in
set_option maxRecDepth 20000 in
theorem refMoved {O : Nat → Prop} {w : World} {r : Nat} {S : RefS} {nv ov lv : Value} (h : RefAt O w r S nv ov lv) (ok : RefOk S) (hd : S.order.Nodup) (v t : Nat) (hv : v ∈ S.order) (ht : t < S.order.length) :
    Calls Tryz.prog 155 #[.pointer (some ⟨r, 0, none⟩), .int .i64 (v : Int), .int .i64 (t : Int)] w fun e w' =>
      ∃ v', e = .returned v' ∧ w'.ownsRow w.heap.size 3 1 v' (moveO S.order v t).length ((moveO S.order v t).map intv) ∧ Below w.heap.size w w' := by
  obtain ⟨j0, hj, gz0, gz1, gz2⟩ := info_parts Tryz.infoIntP
  have hrl : r < w.heap.size := h.lt r h.self
  obtain ⟨_, hc1, hc2, _, _⟩ := ref_c h
  have hord := h.order.reads
  have hol := ok.ol
  rcases hord with ⟨rfl, h0⟩ | ⟨vb, vo, vcap, rfl, hvlt, hvc⟩
  · have h0' : S.order = [] := by simpa using h0
    rw [h0'] at ht
    simp at ht
  · obtain ⟨V, hV⟩ : ∃ V, V = S.order := ⟨_, rfl⟩
    rw [← hV] at hvc hol hc2 hd hv ht ⊢
    simp only [List.length_map] at hvc hc2
    have hvx : ∀ i, i < V.length → w.cell? ⟨vb, vo + i, none⟩ = some (.int .i64 ((V.getD i 0 : Nat) : Int)) := by
      intro i hi
      rw [hvc i hi]
      simp [intv, hi]
    clear hvc hV h ok
    go_enter Tryz.func155, Tryz.ntmps155
    go_wp2_with fail
    go_loopw [7, 8] (fun rv i wr => ∃ k : Nat, k ≤ V.length ∧ i = .int .i64 k ∧ wr.ownsRow w.heap.size 3 1 rv ((V.take k).filter (fun x => decide (x ≠ v))).length (((V.take k).filter (fun x => decide (x ≠ v))).map intv) ∧ Below w.heap.size w wr) (fun _ i _ => V.length - (intOf i).toNat)
    case atStart => exact ⟨0, Nat.zero_le _, rfl, World.ownsRow_nil _ _ _ _, Below.refl _ _⟩
    case round =>
      obtain ⟨k, hk, rfl, hown, hbl⟩ := hrel
      have hc2' := (hbl.cell (p := ⟨r, 2, none⟩) hrl).trans hc2
      by_cases hkl : k < V.length
      · have hvk := (hbl.cell (p := ⟨vb, vo + k, none⟩) hvlt).trans (hvx k hkl)
        have hn := filter_take_succ V v k hkl
        obtain ⟨x, hx⟩ : ∃ x, x = V.getD k 0 := ⟨_, rfl⟩
        rw [← hx] at hvk hn
        have hTl : ((V.take k).filter (fun x => decide (x ≠ v))).length ≤ 6 := by
          have h1 := List.length_filter_le (fun x => decide (x ≠ v)) (V.take k)
          have h2 : (V.take k).length ≤ k := by rw [List.length_take]; omega
          omega
        obtain ⟨T, hT⟩ : ∃ T, T = (V.take k).filter (fun x => decide (x ≠ v)) := ⟨_, rfl⟩
        rw [← hT] at hown hn hTl
        clear hx hvx hT
        by_cases hxv : x = v
        · have e1 : ((x : Int) != (v : Int)) = false := by simp [hxv]
          have hn' : (V.take (k + 1)).filter (fun x => decide (x ≠ v)) = T := by rw [hn]; simp [hxv]
          have HN : Hid _ := hn'
          have HQ : Hid (_ ∧ _) := And.intro hown hbl
          clear hn hn' hown hxv hbl
          go_wp2_with fail
          go_roundw
          case rel => exact ⟨k + 1, by omega, by go_num, by rw [HN.out]; exact HQ.out.1, HQ.out.2⟩
          case measure => simp [intOf]; omega
        · have e1 : ((x : Int) != (v : Int)) = true := by simp; omega
          have hn' : (V.take (k + 1)).filter (fun x => decide (x ≠ v)) = T ++ [x] := by rw [hn]; simp [hxv]
          have HN : Hid _ := hn'
          clear hn hn' hxv
          go_wp2_with (at_builtin; refine wpList_append_placed rfl (.tmp 28) (.tmp 36) 25 rfl w.heap.size 3 j0 (.int .i64 0) 1 8 Tryz.underlying25 hj gz0 gz1 gz2 rfl (by decide) _ T.length (T.map intv) rfl (hown.alloc _) _ 1 1 [intv x] rfl rfl ?_ ?_ ?_ ?_ ?_ ?_; exact cell_one_new _ _ _; exact one_cell_nat _; exact le_max5 (by omega); omega; exact Nat.le_trans hbl.size (by simp); intro v' w5 ho hg hp; have hb5 := ((hbl.alloc hbl.size _).grown hg (Nat.le_trans hbl.size (by simp)) (fun k hk => (hown.lt k hk).1)); have HQ : Hid (w5.ownsRow w.heap.size 3 1 v' (T.length + 1) (T.map intv ++ [intv x]) ∧ Below w.heap.size w w5) := ⟨ho, hb5⟩; clear ho hg hp hb5)
          go_roundw
          case rel => exact ⟨k + 1, by omega, by go_num, by rw [HN.out, List.map_append, List.length_append]; exact HQ.out.1, HQ.out.2⟩
          case measure => simp [intOf]; omega
      · have hk' : V.take k = V := List.take_of_length_le (by omega)
        rw [hk', moved_rest V v hd] at hown
        have hel : (V.erase v).length = V.length - 1 := List.length_erase_of_mem hv
        obtain ⟨R, hR⟩ : ∃ R, R = V.erase v := ⟨_, rfl⟩
        have hmo : moveO V v t = R.take t ++ v :: R.drop t := by unfold moveO; rw [hR]
        rw [← hR] at hown hel
        have hmo2 : (moveO V v t).map intv = (R.map intv).take t ++ [intv v] ++ (R.map intv).drop t := by rw [hmo]; simp
        have hmol : (moveO V v t).length = t + 1 + (R.length - t) := by rw [hmo]; simp; omega
        have HM : Hid (∀ (w' : World) (v' : Value), w'.ownsRow w.heap.size 3 1 v' (t + 1 + (R.length - t)) ((R.map intv).take t ++ [intv v] ++ (R.map intv).drop t) → w'.ownsRow w.heap.size 3 1 v' (moveO V v t).length ((moveO V v t).map intv)) := by
          have : ∀ (w' : World) (v' : Value), w'.ownsRow w.heap.size 3 1 v' (t + 1 + (R.length - t)) ((R.map intv).take t ++ [intv v] ++ (R.map intv).drop t) → w'.ownsRow w.heap.size 3 1 v' (moveO V v t).length ((moveO V v t).map intv) := by
            intro w' v' h
            rw [hmo2, hmol]
            exact h
          exact this
        have htR : t ≤ R.length := by omega
        have hR6 : R.length ≤ 6 := by omega
        have hkV : k = V.length := by omega
        subst hkV
        clear hmo hmo2 hmol hR hk' hvx hd hv hel ht hkl hk
        have h1c : ∀ l : List Nat, ∀ u ∈ l.map intv, u.oneCell' = true := by
          intro l u hu
          obtain ⟨a, _, rfl⟩ := List.mem_map.1 hu
          rfl
        have hbs := hbl.size
        obtain ⟨Y1, hY1⟩ : ∃ Y1, Y1 = (R.map intv).take t := ⟨_, rfl⟩
        obtain ⟨Y3, hY3⟩ : ∃ Y3, Y3 = (R.map intv).drop t := ⟨_, rfl⟩
        have ha1 : ∀ u ∈ Y1, u.oneCell' = true := fun u hu => h1c R u (List.mem_of_mem_take (by rw [← hY1]; exact hu))
        have ha3 : ∀ u ∈ Y3, u.oneCell' = true := fun u hu => h1c R u (List.mem_of_mem_drop (by rw [← hY3]; exact hu))
        have hl1 : Y1.length = t := by rw [hY1]; simp; omega
        have hl3 : Y3.length = R.length - t := by rw [hY3]; simp
        have hl2 : (Y1 ++ [intv v]).length = t + 1 := by simp [hl1]
        have hl4 : (Y1 ++ [intv v] ++ Y3).length = t + 1 + (R.length - t) := by simp [hl1, hl3]; omega
        have hfin : ∀ (w3 : World) (v3 : Value), w3.ownsRow wr.heap.size 3 1 v3 (t + 1 + (R.length - t)) (Y1 ++ [intv v] ++ Y3) → Below wr.heap.size wr w3 → ∃ v', Ending.returned v3 = .returned v' ∧ w3.ownsRow w.heap.size 3 1 v' (moveO V v t).length ((moveO V v t).map intv) ∧ Below w.heap.size w w3 := by
          intro w3 v3 ho hb
          refine ⟨v3, rfl, HM.out _ _ ?_, hbl.trans (hb.mono hbs)⟩
          rw [← hY1, ← hY3]
          exact ownsRow_base ho hbs
        have hmx : ∀ n : Nat, n ≤ 20 → n ≤ maxLen ∧ n * 8 ≤ 140737488355328 := fun n hn => ⟨by unfold maxLen; omega, by omega⟩
        have q1 : ([] : List Value).length + Y1.length ≤ maxLen ∧ (([] : List Value).length + Y1.length) * 8 ≤ 140737488355328 := hmx _ (by simp only [List.length_nil]; omega)
        have q2 : Y1.length + [intv v].length ≤ maxLen ∧ (Y1.length + [intv v].length) * 8 ≤ 140737488355328 := hmx _ (by simp only [List.length_cons, List.length_nil]; omega)
        have q3 : (Y1 ++ [intv v]).length + Y3.length ≤ maxLen ∧ ((Y1 ++ [intv v]).length + Y3.length) * 8 ≤ 140737488355328 := hmx _ (by simp only [List.nil_append, List.length_append, List.length_cons, List.length_nil]; omega)
        have HF : Hid _ := hfin
        clear hfin hmx HM h1c hc2 hc1
        rcases hown.2 with ⟨e, e0⟩ | ⟨g, cap, cur, e, _, _, hnc, _⟩
        · subst e
          have hR0 : R = [] := List.eq_nil_of_length_eq_zero e0
          subst hR0
          have ht0 : t = 0 := by simpa using htR
          subst ht0
          have e1 : Y1 = [] := by rw [hY1]; rfl
          have e3 : Y3 = [] := by rw [hY3]; rfl
          subst e1
          subst e3
          clear hown hY1 hY3 ha1 ha3 hl1 hl3 hl2 hl4 q1 q2 q3
          go_wp2_with (first
            | (at_builtin; refine wpList_append_full rfl (.tmp 43) (.tmp 45) 25 rfl wr.heap.size wr.heap.size (wr.heap.size + 1) 3 j0 (.int .i64 0) 8 Tryz.underlying25 hj gz0 gz1 gz2 rfl (.slice none 0 0) [] rfl (.inr (World.ownsRow_nil _ _ _ _)) _ [intv v] rfl (built1_reads wr v) (one_cell_nat _) (le_max5 (by simp)) (by simp) (by simp) ?_; intro v2 w2 hf2 hb2; have ho2 := full_owns hf2; clear hf2; obtain ⟨ao2, ac2, rfl⟩ := owns_form ho2; have hb12 : Below wr.heap.size wr w2 := ((Below.refl _ wr).alloc (Nat.le_refl _) _).trans hb2)
            | (at_builtin; refine wpList_append_full rfl (.tmp 47) (.tmp 50) 25 rfl wr.heap.size wr.heap.size w2.heap.size 3 j0 (.int .i64 0) 8 Tryz.underlying25 hj gz0 gz1 gz2 rfl _ ([] ++ [intv v]) rfl (.inr ho2) (.slice none 0 0) [] rfl (.inl ⟨rfl, rfl⟩) (by simp) (le_max5 (by simp)) (by simp) hb12.size ?_; intro v3 w3 hf3 hb3; have ho3 := full_owns hf3; clear hf3; obtain ⟨ao3, ac3, rfl⟩ := owns_form ho3))
          go_ret
          exact HF.out _ _ (by simpa using ho3) (hb12.trans hb3)
        · subst e
          have hr1 : Reads wr.heap.size wr (.slice (some ⟨g, 0, none⟩) t cap) Y1 := by
            have := part_reads hown 0 t cap (by omega)
            rw [List.drop_zero] at this
            rw [hY1]; exact this
          have hr30 : ∀ c, Reads wr.heap.size wr (.slice (some ⟨g, t, none⟩) (R.length - t) c) Y3 := by
            intro c
            have := part_reads hown t (R.length - t) c (by omega)
            rw [List.take_of_length_le (by simp)] at this
            rw [hY3]; exact this
          by_cases htc : t = cap
          · have hRt : R.length = t := by omega
            have hr3 : ∀ W, Below wr.heap.size wr W → Reads W.heap.size W (.slice (some ⟨g, 0, none⟩) 0 0) Y3 := by
              intro W hb
              have : Y3 = [] := by rw [hY3]; exact List.drop_eq_nil_of_le (by simp; omega)
              rw [this]
              have hgl := (hown.lt g rfl).2
              exact .inr ⟨g, 0, 0, rfl, Nat.lt_of_lt_of_le hgl hb.size, fun i hi => by simp at hi⟩
            subst htc
            clear hr30 hown hY1 hY3
            go_wp2_with (first
            | (at_builtin; refine wpList_append_full rfl (.tmp 38) (.tmp 41) 25 rfl wr.heap.size wr.heap.size wr.heap.size 3 j0 (.int .i64 0) 8 Tryz.underlying25 hj gz0 gz1 gz2 rfl (.slice none 0 0) [] rfl (.inr (World.ownsRow_nil _ _ _ _)) _ Y1 rfl hr1 ha1 q1.1 q1.2 (Nat.le_refl _) ?_; intro v1 w1 hf1 hb1; have ho1 := full_ownsN hf1 (List.nil_append _) hl1; clear hf1; obtain ⟨ao1, ac1, rfl⟩ := owns_form ho1)
            | (at_builtin; refine wpList_append_full rfl (.tmp 43) (.tmp 45) 25 rfl wr.heap.size wr.heap.size (w1.heap.size + 1) 3 j0 (.int .i64 0) 8 Tryz.underlying25 hj gz0 gz1 gz2 rfl _ Y1 rfl (full_ofN (ho1.alloc _) hl1) _ [intv v] rfl (built1_reads w1 v) (one_cell_nat _) q2.1 q2.2 (Nat.le_trans hb1.size (by simp)) ?_; intro v2 w2 hf2 hb2; have ho2 := full_ownsN hf2 rfl hl2; clear hf2; obtain ⟨ao2, ac2, rfl⟩ := owns_form ho2; have hb12 : Below wr.heap.size wr w2 := (hb1.alloc hb1.size _).trans hb2; have hr3' := hr3 w2 hb12)
            | (at_builtin; refine wpList_append_full rfl (.tmp 47) (.tmp 50) 25 rfl wr.heap.size wr.heap.size w2.heap.size 3 j0 (.int .i64 0) 8 Tryz.underlying25 hj gz0 gz1 gz2 rfl _ (Y1 ++ [intv v]) rfl (full_ofN ho2 hl2) _ Y3 rfl hr3' ha3 q3.1 q3.2 hb12.size ?_; intro v3 w3 hf3 hb3; have ho3 := full_ownsN hf3 rfl hl4; clear hf3; obtain ⟨ao3, ac3, rfl⟩ := owns_form ho3))
            go_ret
            have e9 : t + 1 + (R.length - t) = t + 1 := by omega
            have ho4 : w3.ownsRow wr.heap.size 3 1 (.slice ao3 (t + 1) ac3) (t + 1 + (R.length - t)) (Y1 ++ [intv v] ++ Y3) := by
              have := ho3
              rw [e9] at this ⊢
              exact this
            exact HF.out _ _ ho4 (hb12.trans hb3)
          · have hr3 : ∀ W, Below wr.heap.size wr W → Reads W.heap.size W (.slice (some ⟨g, t, none⟩) (R.length - t) (cap - t)) Y3 := fun W hb => ((hr30 (cap - t)).below hb (Nat.le_refl _)).mono hb.size
            clear hr30 hown hY1 hY3
            go_wp2_with (first
            | (at_builtin; refine wpList_append_full rfl (.tmp 38) (.tmp 41) 25 rfl wr.heap.size wr.heap.size wr.heap.size 3 j0 (.int .i64 0) 8 Tryz.underlying25 hj gz0 gz1 gz2 rfl (.slice none 0 0) [] rfl (.inr (World.ownsRow_nil _ _ _ _)) _ Y1 rfl hr1 ha1 q1.1 q1.2 (Nat.le_refl _) ?_; intro v1 w1 hf1 hb1; have ho1 := full_ownsN hf1 (List.nil_append _) hl1; clear hf1; obtain ⟨ao1, ac1, rfl⟩ := owns_form ho1)
            | (at_builtin; refine wpList_append_full rfl (.tmp 43) (.tmp 45) 25 rfl wr.heap.size wr.heap.size (w1.heap.size + 1) 3 j0 (.int .i64 0) 8 Tryz.underlying25 hj gz0 gz1 gz2 rfl _ Y1 rfl (full_ofN (ho1.alloc _) hl1) _ [intv v] rfl (built1_reads w1 v) (one_cell_nat _) q2.1 q2.2 (Nat.le_trans hb1.size (by simp)) ?_; intro v2 w2 hf2 hb2; have ho2 := full_ownsN hf2 rfl hl2; clear hf2; obtain ⟨ao2, ac2, rfl⟩ := owns_form ho2; have hb12 : Below wr.heap.size wr w2 := (hb1.alloc hb1.size _).trans hb2; have hr3' := hr3 w2 hb12)
            | (at_builtin; refine wpList_append_full rfl (.tmp 47) (.tmp 50) 25 rfl wr.heap.size wr.heap.size w2.heap.size 3 j0 (.int .i64 0) 8 Tryz.underlying25 hj gz0 gz1 gz2 rfl _ (Y1 ++ [intv v]) rfl (full_ofN ho2 hl2) _ Y3 rfl hr3' ha3 q3.1 q3.2 hb12.size ?_; intro v3 w3 hf3 hb3; have ho3 := full_ownsN hf3 rfl hl4; clear hf3; obtain ⟨ao3, ac3, rfl⟩ := owns_form ho3))
            go_ret
            exact HF.out _ _ ho3 (hb12.trans hb3)

end Go.Proofs.YtebfmcafmojlaaaGreatDoor

/-
  copse: Sift; Collect refused.
-/
namespace Go.Proofs.YtebfmcafmojlaaaGreatDoor
open Go.RowKit Go.Maps
set_option linter.unusedSimpArgs false
set_option linter.unusedVariables false

theorem move_same {o : List Nat} {v : Nat} (hd : o.Nodup) (hv : v ∈ o) : moveO o v (o.idxOf v) = o := (moveO_of hd hv rfl).symm

def ordC (C : CopS) (o : List Nat) : CopS := { C with order := o }

theorem CopStep.trans {O O1 : Nat → Prop} {w w1 w' : World} {x : Nat} {C' : CopS} (ho : Only O w w1) (hg : Grows w O O1) (h : CopStep CopI O1 w1 x w' C') : CopStep CopI O w x w' C' := by
  obtain ⟨ho2, O2, hi, hg2⟩ := h
  exact ⟨ho.trans ho2 hg, O2, hi, hg.trans hg2 ho.size⟩

/-- One variable more. -/
theorem sift_round {O : Nat → Prop} {w : World} {x : Nat} {C : CopS} (hI : CopI O w x C) (Lt : List Tab) (hL : Lists C Lt) (v : Nat) (hv : v < C.names.length) :
    (∃ nao ncap, w.cell? ⟨x, 1, none⟩ = some (.slice nao C.names.length ncap)) ∧ x < w.heap.size ∧ Calls Tryz.prog 156 #[.pointer (some ⟨x, 0, none⟩), .int .i64 (v : Int)] w fun e w1 => ∃ g q : Nat, e = .returned (.pointer (some ⟨g, 0, none⟩)) ∧ w1.cell? ⟨x, 2, none⟩ = some (.pointer (some ⟨q, 0, none⟩)) ∧ w1.frozen? ⟨x, 2, none⟩ = false ∧ CopStep CopI O w x (w1.setCell ⟨x, 2, none⟩ (.pointer (some ⟨g, 0, none⟩))) (ordC C (bestTo C.order v Lt (C.names.length - 1))) := by
  obtain ⟨cap, names, S, nv, gb, lb, L, Og, rfl, hok, hA⟩ := hI
  have hv' : v < names.length := hv
  obtain ⟨nao, ncap, env⟩ := owns_form hA.names.1
  rw [List.length_map] at env
  refine ⟨⟨nao, ncap, by rw [hA.c.2.1, env]; rfl⟩, hA.lt x hA.self, (copseSifted_is hok hA hv' hL).mono ?_⟩
  intro e w1 hp
  have hp' := hp
  obtain ⟨g, S2, rfl, q1, q2, q3⟩ := hp
  have hA1 := hA.below q2
  refine ⟨g, gb, rfl, hA1.c.2.2.1, frozen_of_heap hA1.cells, hp'.taken hok hA hL ?_ rfl⟩
  have hvo : v ∈ S.order := (hok.mid.order v).2 hv'
  have hol := hok.mid.olen
  have hix : S.order.idxOf v < S.order.length := List.idxOf_lt_length_of_mem hvo
  have h1 := best_le S.order v Lt (names.length - 1) (S.order.idxOf v) (by omega)
  have hms : moveO S.order v (S.order.idxOf v) = S.order := move_same hok.mid.k.nodup hvo
  rw [hms] at h1
  have hc := hok.mid.count (cap := cap) (S0 := S) (fs := Lt) rfl (fun q hq => rfl) hL (fun f => by simp)
  have := hok.size
  omega

set_option maxHeartbeats 1000000 in
set_option maxRecDepth 10000 in
theorem copseSift_is {O : Nat → Prop} {w : World} {x : Nat} {C : CopS} (hI : CopI O w x C) (Lt : List Tab) (hL : Lists C Lt) :
    Calls Tryz.prog 124 #[.pointer (some ⟨x, 0, none⟩)] w fun e w' => e = .returned (.tuple #[]) ∧ CopStep CopI O w x w' (ordC C (siftN C.order C.names.length Lt C.names.length)) := by
  have hn6 : C.names.length ≤ 6 := by
    obtain ⟨cap, names, S, nv, gb, lb, L, Og, rfl, hok, hA⟩ := hI
    exact hok.mid.n6
  have hx0 : (∃ nao ncap, w.cell? ⟨x, 1, none⟩ = some (.slice nao C.names.length ncap)) ∧ x < w.heap.size := by
    obtain ⟨cap, names, S, nv, gb, lb, L, Og, rfl, hok, hA⟩ := hI
    obtain ⟨nao, ncap, env⟩ := owns_form hA.names.1
    rw [List.length_map] at env
    exact ⟨⟨nao, ncap, by rw [hA.c.2.1, env]; rfl⟩, hA.lt x hA.self⟩
  obtain ⟨⟨nao, ncap, c1⟩, hxl⟩ := hx0
  have hst : CopStep CopI O w x w (ordC C (siftN C.order C.names.length Lt 0)) := ⟨Only.refl _ _, O, hI, Grows.refl _ _⟩
  have hround : ∀ (wr : World) (k : Nat), k < C.names.length → CopStep CopI O w x wr (ordC C (siftN C.order C.names.length Lt k)) → Calls Tryz.prog 156 #[.pointer (some ⟨x, 0, none⟩), .int .i64 (k : Int)] wr fun e w1 => ∃ g q : Nat, e = .returned (.pointer (some ⟨g, 0, none⟩)) ∧ w1.cell? ⟨x, 2, none⟩ = some (.pointer (some ⟨q, 0, none⟩)) ∧ w1.frozen? ⟨x, 2, none⟩ = false ∧ CopStep CopI O w x (w1.setCell ⟨x, 2, none⟩ (.pointer (some ⟨g, 0, none⟩))) (ordC C (siftN C.order C.names.length Lt (k + 1))) := by
    intro wr k hk hs
    obtain ⟨ho, O1, hI1, hg⟩ := hs
    refine (sift_round hI1 Lt (hL.same rfl) k hk).2.2.mono ?_
    rintro e w1 ⟨g, q, he, h1, h2, h3⟩
    exact ⟨g, q, he, h1, h2, CopStep.trans ho hg h3⟩
  have HR : Hid _ := hround
  have HS : Hid (CopStep CopI O w x w (ordC C (siftN C.order C.names.length Lt 0))) := hst
  obtain ⟨n, hn⟩ : ∃ n, n = C.names.length := ⟨_, rfl⟩
  rw [← hn] at c1 HR HS hn6 ⊢
  clear hround hst hI hL hn
  go_enter Tryz.func124, Tryz.ntmps124
  go_wp2_with fail
  go_loopw [8] (fun iv wr => ∃ k : Nat, k ≤ n ∧ iv = .int .i64 (k : Nat) ∧ CopStep CopI O w x wr (ordC C (siftN C.order n Lt k))) (fun iv _ => n - (intOf iv).toNat)
  case atStart => exact ⟨0, Nat.zero_le _, rfl, HS.out⟩
  case round =>
    obtain ⟨k, hk, rfl, hs⟩ := hrel
    clear HS
    by_cases hlt : k < n
    · have hcall := HR.out wr k hlt hs
      clear HR hs
      go_wp2_with (go_at_call 156; refine hcall.mono ?_; clear hcall; rintro e w1 ⟨g, q, rfl, q1, q2, hs1⟩; have HS1 : Hid _ := hs1; clear hs1)
      go_roundw
      case rel => exact ⟨k + 1, by omega, by go_num, HS1.out⟩
      case measure => simp [intOf]; omega
    · have e : k = n := by omega
      subst e
      clear HR
      go_wp2_with fail
      go_end0
      exact ⟨rfl, hs⟩

set_option maxHeartbeats 1000000 in
set_option maxRecDepth 100000 in
theorem copseCollect_no {O : Nat → Prop} {w : World} {x : Nat} {C : CopS} (hI : CopI O w x C) (hs : List Int) (fv : Value) (hr : Reads w.heap.size w fv (hs.map zv)) (hlen : hs.length ≤ 2000000) (hz : ∀ z ∈ hs, i64ok z) (hn : ∃ z ∈ hs, z < 0) :
    Calls Tryz.prog 71 #[.pointer (some ⟨x, 0, none⟩), fv] w fun e w' => e = .returned (.int .i64 4) ∧ CopStep CopI O w x w' C := by
  have hst := fun w' => hI.step (w' := w')
  obtain ⟨cap, names, S, nv, gb, lb, L, Og, rfl, hok, hA⟩ := hI
  obtain ⟨W0, hW0⟩ : ∃ W0, W0 = w.alloc (.cells #[.pointer (some ⟨x, 0, none⟩)] 28) := ⟨_, rfl⟩
  have hb0 : Below w.heap.size w W0 := by rw [hW0]; exact (Below.refl _ w).alloc (Nat.le_refl _) _
  have hc0 : W0.heap[w.heap.size]? = some (.cells #[.pointer (some ⟨x, 0, none⟩)] 28 (0, 0)) := by rw [hW0]; exact heap_alloc_new w _
  have q0 : W0.cell? ⟨w.heap.size, 0, none⟩ = some (.pointer (some ⟨x, 0, none⟩)) := by rw [cell_of_heap hc0]; rfl
  have hA0 := hA.below hb0
  have hare0 := copseAreLive_is (zs := hs) (fv := fv) hA0.c.2.2.2 (hA0.lt x hA0.self) hA0.live hok.mid.agg ((hr.below hb0 (Nat.le_refl _)).mono hb0.size) hz (by omega)
  have hare : Calls Tryz.prog 36 #[.pointer (some ⟨x, 0, none⟩), fv] W0 fun e w' => e = .returned (.bool false) ∧ Below W0.heap.size W0 w' := by
    refine hare0.mono ?_
    rintro e w' ⟨b, rfl, h1, h2⟩
    obtain ⟨z, hz1, hz2⟩ := hn
    have : b = false := by
      cases b
      · rfl
      · exfalso
        have := h1.1 rfl z hz1
        obtain ⟨r, e, _⟩ := hok.mid.ents _ this
        have e' := congrArg Prod.fst e
        simp [natv] at e'
        omega
    subst this
    exact ⟨rfl, h2⟩
  obtain ⟨fao, fn, fcap, efv⟩ : ∃ ao n cap, fv = .slice ao n cap := by
    rcases hr with ⟨h, _⟩ | ⟨b, off, cap, h, _⟩
    · exact ⟨none, 0, 0, h⟩
    · exact ⟨_, _, _, h⟩
  subst efv
  have hfin : ∀ w1, Below W0.heap.size W0 w1 → CopStep CopI O w x w1 (copC cap names S L) := fun w1 hb => hst w1 (hb0.trans (hb.mono hb0.size))
  have HF : Hid _ := hfin
  clear hfin hst hare0 hA0 hok hA hr hz hn hc0 hb0
  refine (callsIn_wide (n := 6)).1 ?_
  refine callsIn_of_wp_marks Tryz.func71 rfl trivial ?_ rfl
  simp only [Tryz.ntmps71, List.size_toArray, List.length_cons, List.length_nil, Nat.reduceAdd, Nat.reduceSub, Array.replicate_succ, Array.replicate_zero, List.push_toArray, List.append_toArray, List.nil_append, List.cons_append]
  gi_wp2_with (rw [← hW0]; refine ⟨trivial, ?_⟩; gi_at_call 36; refine (callsIn_wide.2 hare).mono ?_; clear hare; rintro e w1 ⟨rfl, hb1⟩)
  refine ⟨_, results_tmp rfl _ _ _, ?_⟩
  exact ⟨rfl, HF.out _ hb1⟩

end Go.Proofs.YtebfmcafmojlaaaGreatDoor

/-
  copseref: Move, Sift.
-/
namespace Go.Proofs.YtebfmcafmojlaaaGreatDoor
open Go.RowKit
set_option linter.unusedSimpArgs false
set_option linter.unusedVariables false

theorem RefAt.step {O : Nat → Prop} {w w' : World} {r : Nat} {S : RefS} {nv ov lv : Value} (h : RefAt O w r S nv ov lv) (hb : Below w.heap.size w w') : RefStep O w r w' S := RefIs.step ⟨nv, ov, lv, h⟩ hb

set_option maxHeartbeats 1000000 in
set_option maxRecDepth 10000 in
theorem refMove_name {O : Nat → Prop} {w : World} {r : Nat} {S : RefS} (hI : RefIs O w r S) (ok : RefOk S) (name : ByteArray) (t : Int) (hn : namedI S.names name = -1) :
    Calls Tryz.prog 123 #[.pointer (some ⟨r, 0, none⟩), .string name, .int .i64 t] w fun e w' => e = .returned (.int .i64 2) ∧ RefStep O w r w' S := by
  obtain ⟨nv, ov, lv, h⟩ := hI
  have hnm := refNamed_any h name ok.nl
  rw [hn] at hnm
  have hst := h.step (Below.refl _ _)
  have HS : Hid _ := hst
  clear h hst hn
  go_enter Tryz.func123, Tryz.ntmps123
  go_wp2_with (go_at_call 105; refine hnm.mono ?_; clear hnm; rintro e w0 ⟨rfl, hq⟩; replace hq := hq.symm; subst hq)
  go_ret
  exact ⟨rfl, HS.out⟩

set_option maxHeartbeats 1000000 in
set_option maxRecDepth 10000 in
theorem refMove_arg {O : Nat → Prop} {w : World} {r : Nat} {S : RefS} (hI : RefIs O w r S) (ok : RefOk S) (name : ByteArray) (t : Int) (ht : i64ok t) (hn : 0 ≤ namedI S.names name) (hto : t < 0 ∨ (S.order.length : Int) ≤ t) :
    Calls Tryz.prog 123 #[.pointer (some ⟨r, 0, none⟩), .string name, .int .i64 t] w fun e w' => e = .returned (.int .i64 1) ∧ RefStep O w r w' S := by
  obtain ⟨nv, ov, lv, h⟩ := hI
  have hnm := refNamed_any h name ok.nl
  have hst := h.step (Below.refl _ _)
  have HS : Hid _ := hst
  obtain ⟨_, _, c2, _, _⟩ := ref_c h
  obtain ⟨oao, ocap, eo⟩ := owns_form h.order.1
  rw [List.length_map] at eo
  subst eo
  obtain ⟨z, hz⟩ : ∃ z, z = namedI S.names name := ⟨_, rfl⟩
  rw [← hz] at hnm hn
  have e0 : decide (z < 0) = false := by simp; omega
  clear h hst hz ok
  by_cases h0 : t < 0
  · have e1 : decide (t < 0) = true := by simpa using h0
    go_enter Tryz.func123, Tryz.ntmps123
    go_wp2_with (go_at_call 105; refine hnm.mono ?_; clear hnm; rintro e w0 ⟨rfl, hq⟩; replace hq := hq.symm; subst hq)
    go_ret
    exact ⟨rfl, HS.out⟩
  · have h1 : (S.order.length : Int) ≤ t := by omega
    have e1 : decide (t < 0) = false := by simpa using h0
    have e2 : decide ((S.order.length : Int) ≤ t) = true := by simpa using h1
    clear hto
    go_enter Tryz.func123, Tryz.ntmps123
    go_wp2_with (go_at_call 105; refine hnm.mono ?_; clear hnm; rintro e w0 ⟨rfl, hq⟩; replace hq := hq.symm; subst hq)
    go_ret
    exact ⟨rfl, HS.out⟩

theorem moveO_perm2 {o : List Nat} {v t : Nat} (hv : v ∈ o) : (moveO o v t).Perm o := by
  unfold moveO
  have h1 : ((o.erase v).take t ++ v :: (o.erase v).drop t).Perm (v :: ((o.erase v).take t ++ (o.erase v).drop t)) := List.perm_middle
  rw [List.take_append_drop] at h1
  exact h1.trans (List.perm_cons_erase hv).symm

theorem RefOk.reorder {S : RefS} (ok : RefOk S) {o : List Nat} (hp : o.Perm S.order) : RefOk { S with order := o } :=
  ⟨by show o.length ≤ 6; rw [hp.length_eq]; exact ok.ol, fun x hx => ok.o6 x (hp.mem_iff.1 hx), ok.ll, ok.nl, by show o.length = _; rw [hp.length_eq]; exact ok.on⟩

/-- The order is stored. -/
theorem order_stored {O : Nat → Prop} {w w1 w2 : World} {r : Nat} {S : RefS} {nv ov lv : Value} (h : RefAt O w r S nv ov lv) (hb : Below w.heap.size w w1) {l : List Nat} {v : Value} (hown : w1.ownsRow w.heap.size 3 1 v l.length (l.map intv)) (e : w2 = w1.setCell ⟨r, 2, none⟩ v) : RefStep O w r w2 { S with order := l } := by
  have h1 := (h.below hb).setOrder hown h.lt
  rw [← e] at h1
  refine ⟨?_, _, ⟨nv, v, lv, h1⟩, ?_⟩
  · rw [e]; exact (only_of_below hb O).setCell (p := ⟨r, 2, none⟩) (.inl h.self) _
  · rintro b (hb' | hb')
    · exact .inl hb'
    · exact .inr (hown.lt b hb').1

set_option maxHeartbeats 1000000 in
set_option maxRecDepth 10000 in
theorem refMove {O : Nat → Prop} {w : World} {r : Nat} {S : RefS} (hI : RefIs O w r S) (ok : RefOk S) (hd : S.order.Nodup) (name : ByteArray) (v t : Nat) (hn : namedI S.names name = (v : Int)) (hv : v ∈ S.order) (ht : t < S.order.length) :
    Calls Tryz.prog 123 #[.pointer (some ⟨r, 0, none⟩), .string name, .int .i64 (t : Int)] w fun e w' =>
      (S.cap < ((allT (moveO S.order v t) S.live).length : Int) ∧ e = .returned (.int .i64 5) ∧ RefStep O w r w' S) ∨
      (¬ S.cap < ((allT (moveO S.order v t) S.live).length : Int) ∧ e = .returned (.int .i64 0) ∧ RefStep O w r w' { S with order := moveO S.order v t }) := by
  obtain ⟨nv, ov, lv, h⟩ := hI
  have hnm := refNamed_any h name ok.nl
  rw [hn] at hnm
  obtain ⟨c0, _, c2, c3, _⟩ := ref_c h
  have hrl := h.lt r h.self
  obtain ⟨oao, ocap, eo⟩ := owns_form h.order.1
  obtain ⟨lao, lcap, el⟩ := owns_form h.live.1
  rw [List.length_map] at eo el
  subst eo
  subst el
  have hmv := refMoved h ok hd v t hv ht
  have hp := moveO_perm2 (t := t) hv
  have ok' := ok.reorder hp
  have hfew : (allT (moveO S.order v t) S.live).length ≤ 1000000000 := by
    have h1 := foldl_len (moveO S.order v t) ((moveO S.order v t).length + 1) S.live []
    have h2 : (moveO S.order v t).length ≤ 6 := ok'.ol
    have h3 : 2 ^ ((moveO S.order v t).length + 1) ≤ 2 ^ 7 := Nat.pow_le_pow_right (by omega) (by omega)
    have h4 : S.live.length * 2 ^ ((moveO S.order v t).length + 1) ≤ 4000000 * 2 ^ 7 := Nat.mul_le_mul ok.ll h3
    unfold allT
    simp only [List.length_nil, Nat.zero_add] at h1
    omega
  have hnx : ∀ w1 v1, Below w.heap.size w w1 → w1.ownsRow w.heap.size 3 1 v1 (moveO S.order v t).length ((moveO S.order v t).map intv) → (w1.cell? ⟨r, 3, none⟩ = some (.slice lao S.live.length lcap)) ∧ Calls Tryz.prog 108 #[v1, .slice lao S.live.length lcap] w1 fun e w2 => ∃ v2, e = .returned v2 ∧ (∃ ao cp, v2 = .slice ao (allT (moveO S.order v t) S.live).length cp) ∧ w2.cell? ⟨r, 0, none⟩ = some (.int .i64 S.cap) ∧ w2.cell? ⟨r, 2, none⟩ = some (.slice oao S.order.length ocap) ∧ w2.frozen? ⟨r, 2, none⟩ = false ∧ RefStep O w r w2 S ∧ RefStep O w r (w2.setCell ⟨r, 2, none⟩ v1) { S with order := moveO S.order v t } := by
    intro w1 v1 hb ho
    refine ⟨(hb.cell (p := ⟨r, 3, none⟩) hrl).trans c3, ?_⟩
    refine (refAll_any (moveO S.order v t) ok'.o6 ok'.ol v1 _ S.live w1 (reads_of_owns ho) (h.below hb).live.reads (by have := ok.ll; omega)).mono ?_
    rintro e w2 ⟨v2, he, ho2, hb2⟩
    have hbw := hb.trans (hb2.mono hb.size)
    exact ⟨v2, he, owns_form ho2, (hbw.cell (p := ⟨r, 0, none⟩) hrl).trans c0, (hbw.cell (p := ⟨r, 2, none⟩) hrl).trans c2, frozen_of_heap (h.below hbw).cells, h.step hbw, order_stored h hbw (owns_below ho hb2 (Nat.le_refl _)) rfl⟩
  have hdv : decide ((v : Int) < 0) = false := by simp
  have HN : Hid _ := hnx
  obtain ⟨m, hm⟩ : ∃ m, m = (allT (moveO S.order v t) S.live).length := ⟨_, rfl⟩
  rw [← hm] at HN hfew ⊢
  clear hnx h ok ok' hp hd hv hm
  by_cases hf : S.cap < (m : Int)
  · have e1 : decide (S.cap < (m : Int)) = true := by simpa using hf
    have HFF : Hid (S.cap < (m : Int)) := hf
    clear hf
    go_enter Tryz.func123, Tryz.ntmps123
    go_wp2_with (first
      | (go_at_call 105; refine hnm.mono ?_; clear hnm; rintro e w0 ⟨rfl, hq⟩; replace hq := hq.symm; subst hq)
      | (go_at_call 155; refine hmv.mono ?_; clear hmv; rintro e w1 ⟨v1, rfl, ho1, hb1⟩; obtain ⟨ao1, ac1, rfl⟩ := owns_form ho1; obtain ⟨d3, hall⟩ := HN.out _ _ hb1 ho1; clear HN ho1)
      | (go_at_call 108; refine hall.mono ?_; clear hall; rintro e w2 ⟨v2, rfl, ⟨ao2, ac2, rfl⟩, q0, q2, q3, hs1, hs2⟩; have HS1 : Hid _ := hs1; clear hs1 hs2))
    go_ret
    exact .inl ⟨HFF.out, rfl, HS1.out⟩
  · have e1 : decide (S.cap < (m : Int)) = false := by simpa using hf
    have HFF : Hid (¬ S.cap < (m : Int)) := hf
    clear hf
    go_enter Tryz.func123, Tryz.ntmps123
    go_wp2_with (first
      | (go_at_call 105; refine hnm.mono ?_; clear hnm; rintro e w0 ⟨rfl, hq⟩; replace hq := hq.symm; subst hq)
      | (go_at_call 155; refine hmv.mono ?_; clear hmv; rintro e w1 ⟨v1, rfl, ho1, hb1⟩; obtain ⟨ao1, ac1, rfl⟩ := owns_form ho1; obtain ⟨d3, hall⟩ := HN.out _ _ hb1 ho1; clear HN ho1)
      | (go_at_call 108; refine hall.mono ?_; clear hall; rintro e w2 ⟨v2, rfl, ⟨ao2, ac2, rfl⟩, q0, q2, q3, hs1, hs2⟩; have HS2 : Hid _ := hs2; clear hs1 hs2))
    go_ret
    exact .inr ⟨HFF.out, rfl, HS2.out⟩

end Go.Proofs.YtebfmcafmojlaaaGreatDoor

/-
  copseref: Sift.
-/
namespace Go.Proofs.YtebfmcafmojlaaaGreatDoor
open Go.RowKit
set_option linter.unusedSimpArgs false
set_option linter.unusedVariables false

theorem RefStep.then {O O1 : Nat → Prop} {w w1 w' : World} {r : Nat} {S' : RefS} (ho : Only O w w1) (hg : Grows w O O1) (h : RefStep O1 w1 r w' S') : RefStep O w r w' S' := by
  obtain ⟨ho2, O2, hi, hg2⟩ := h
  exact ⟨ho.trans ho2 hg, O2, hi, hg.trans hg2 ho.size⟩

theorem allT_few {o : List Nat} {L : List Tab} (ho : o.length ≤ 6) (hl : L.length ≤ 4000000) : (allT o L).length ≤ 1000000000 := by
  have h1 := foldl_len o (o.length + 1) L []
  have h3 : 2 ^ (o.length + 1) ≤ 2 ^ 7 := Nat.pow_le_pow_right (by omega) (by omega)
  have h4 : L.length * 2 ^ (o.length + 1) ≤ 4000000 * 2 ^ 7 := Nat.mul_le_mul hl h3
  unfold allT
  simp only [List.length_nil, Nat.zero_add] at h1
  omega

/-- moved, and All behind it. -/
theorem moved_all {O : Nat → Prop} {w : World} {r : Nat} {S : RefS} {nv ov lv : Value} (h : RefAt O w r S nv ov lv) (ok : RefOk S) (hd : S.order.Nodup) (v t : Nat) (hv : v ∈ S.order) (ht : t < S.order.length) (w1 : World) (hb : Below w.heap.size w w1) :
    Calls Tryz.prog 155 #[.pointer (some ⟨r, 0, none⟩), .int .i64 (v : Int), .int .i64 (t : Int)] w1 fun e w2 => ∃ ao cp, e = .returned (.slice ao (moveO S.order v t).length cp) ∧ Below w1.heap.size w1 w2 ∧ w2.ownsRow w.heap.size 3 1 (.slice ao (moveO S.order v t).length cp) (moveO S.order v t).length ((moveO S.order v t).map intv) ∧ w2.cell? ⟨r, 3, none⟩ = some lv ∧
      Calls Tryz.prog 108 #[.slice ao (moveO S.order v t).length cp, lv] w2 fun e w3 => ∃ ao3 c3, e = .returned (.slice ao3 (allT (moveO S.order v t) S.live).length c3) ∧ Below w2.heap.size w2 w3 := by
  refine (refMoved (h.below hb) ok hd v t hv ht).mono ?_
  rintro e w2 ⟨v', rfl, hown, hb2⟩
  obtain ⟨ao, cp, rfl⟩ := owns_form hown
  have hb12 := hb.trans (hb2.mono hb.size)
  have h2 := h.below hb12
  have ok' := ok.reorder (moveO_perm2 (t := t) hv)
  refine ⟨ao, cp, rfl, hb2, ownsRow_base hown hb.size, (ref_c h2).2.2.2.1, ?_⟩
  refine (refAll_any (moveO S.order v t) ok'.o6 ok'.ol _ _ S.live w2 (reads_of_owns hown) h2.live.reads (by have := ok.ll; omega)).mono ?_
  rintro e w3 ⟨v3, rfl, ho3, hb3⟩
  obtain ⟨ao3, c3, rfl⟩ := owns_form ho3
  exact ⟨ao3, c3, rfl, hb3⟩

theorem bestTo_perm {o : List Nat} {v : Nat} (hv : v ∈ o) (Lt : List Tab) : ∀ t, (bestTo o v Lt t).Perm o
  | 0 => moveO_perm2 hv
  | t + 1 => by
    unfold bestTo
    split
    · exact moveO_perm2 hv
    · exact bestTo_perm hv Lt t

theorem siftN_perm {o : List Nat} {n : Nat} (Lt : List Tab) : ∀ k, (∀ v, v < k → v ∈ o) → (siftN o n Lt k).Perm o
  | 0, _ => List.Perm.refl _
  | k + 1, h => by
    have h1 := siftN_perm (n := n) Lt k (fun v hv => h v (by omega))
    unfold siftN
    exact (bestTo_perm (h1.mem_iff.2 (h k (by omega))) Lt (n - 1)).trans h1

/-- The best of the places below t, as the loop knows it. -/
def BestAt (B : Nat) (o : List Nat) (v : Nat) (Lt : List Tab) (t : Nat) (bv ov : Value) (w : World) : Prop :=
  (t = 0 ∧ bv = .int .i64 (-1) ∧ ov = .slice none 0 0) ∨ ∃ t' m, t = t' + 1 ∧ m = (allT (bestTo o v Lt t') Lt).length ∧ bv = .int .i64 (m : Nat) ∧ ∃ ao cp n, ov = .slice ao n cp ∧ n = (bestTo o v Lt t').length ∧ w.ownsRow B 3 1 (.slice ao n cp) n ((bestTo o v Lt t').map intv)

theorem BestAt.below {B : Nat} {o : List Nat} {v : Nat} {Lt : List Tab} {t : Nat} {bv ov : Value} {w w' : World} (h : BestAt B o v Lt t bv ov w) (hb : Below w.heap.size w w') : BestAt B o v Lt t bv ov w' := by
  rcases h with h | ⟨t', m, h1, h2, h3, ao, cp, n, h4, h5, h6⟩
  · exact .inl h
  · exact .inr ⟨t', m, h1, h2, h3, ao, cp, n, h4, h5, owns_below h6 hb (Nat.le_refl _)⟩

theorem best_first {B : Nat} {o : List Nat} {v : Nat} {Lt : List Tab} {t m M : Nat} {w : World} {ao : Option Addr} {cp : Nat} (ht : t = 0) (hm : m = (moveO o v t).length) (hM : M = (allT (moveO o v t) Lt).length) (ho : w.ownsRow B 3 1 (.slice ao m cp) m ((moveO o v t).map intv)) :
    BestAt B o v Lt (t + 1) (.int .i64 (M : Nat)) (.slice ao m cp) w := by
  subst ht
  exact .inr ⟨0, M, rfl, hM, rfl, ao, cp, m, rfl, hm, ho⟩

theorem best_take {B : Nat} {o : List Nat} {v : Nat} {Lt : List Tab} {t t' m0 m M : Nat} {w : World} {ao : Option Addr} {cp : Nat} (ht : t = t' + 1) (hm : m = (moveO o v t).length) (hM : M = (allT (moveO o v t) Lt).length) (hm0 : m0 = (allT (bestTo o v Lt t') Lt).length) (hlt : (allT (moveO o v t) Lt).length < m0) (ho : w.ownsRow B 3 1 (.slice ao m cp) m ((moveO o v t).map intv)) :
    BestAt B o v Lt (t + 1) (.int .i64 (M : Nat)) (.slice ao m cp) w := by
  subst ht
  have e : bestTo o v Lt (t' + 1) = moveO o v (t' + 1) := by
    show (if _ then _ else _) = _
    rw [if_pos (by rw [← hm0]; exact hlt)]
  exact .inr ⟨t' + 1, M, rfl, by rw [e]; exact hM, rfl, ao, cp, m, rfl, by rw [e]; exact hm, by rw [e]; exact ho⟩

theorem best_leave {B : Nat} {o : List Nat} {v : Nat} {Lt : List Tab} {t t' m0 : Nat} {bv ov : Value} {w : World} (ht : t = t' + 1) (hm0 : m0 = (allT (bestTo o v Lt t') Lt).length) (hlt : ¬ (allT (moveO o v t) Lt).length < m0) (h : BestAt B o v Lt t bv ov w) :
    BestAt B o v Lt (t + 1) bv ov w := by
  subst ht
  have e : bestTo o v Lt (t' + 1) = bestTo o v Lt t' := by
    show (if _ then _ else _) = _
    rw [if_neg (by rw [← hm0]; exact hlt)]
  rcases h with ⟨h0, _⟩ | ⟨t2, m, h1, h2, h3, ao, cp, n, h4, h5, h6⟩
  · omega
  · have : t2 = t' := by omega
    subst this
    exact .inr ⟨t2 + 1, m, rfl, by rw [e]; exact h2, h3, ao, cp, n, h4, by rw [e]; exact h5, by rw [e]; exact h6⟩

set_option maxHeartbeats 4000000 in
set_option maxRecDepth 20000 in
theorem refSift {O : Nat → Prop} {w : World} {r : Nat} {S : RefS} (hI : RefIs O w r S) (ok : RefOk S) (hd : S.order.Nodup ∧ ∀ v, v ∈ S.order ↔ v < S.names.length) :
    Calls Tryz.prog 125 #[.pointer (some ⟨r, 0, none⟩)] w fun e w' => e = .returned (.tuple #[]) ∧ RefStep O w r w' { S with order := siftN S.order S.names.length S.live S.names.length } := by
  have hn6 := ok.nl
  have hst : RefStep O w r w { S with order := siftN S.order S.names.length S.live 0 } := ⟨Only.refl _ _, O, hI, Grows.refl _ _⟩
  have hperm : ∀ k, k ≤ S.names.length → (siftN S.order S.names.length S.live k).Perm S.order := fun k hk => siftN_perm S.live k (fun v hv => (hd.2 v).2 (by omega))
  obtain ⟨n, hn⟩ : ∃ n, n = S.names.length := ⟨_, rfl⟩
  have hopen : ∀ k wr, k ≤ n → RefStep O w r wr { S with order := siftN S.order n S.live k } → ∃ nao ncap lao lcap nr, wr.cell? ⟨r, 1, none⟩ = some (.slice nao n ncap) ∧ wr.cell? ⟨r, 3, none⟩ = some (.slice lao nr lcap) ∧ r < wr.heap.size ∧ (∀ w2 (ov : Value), Below wr.heap.size wr w2 → ∃ q, w2.cell? ⟨r, 2, none⟩ = some q ∧ w2.frozen? ⟨r, 2, none⟩ = false) ∧
      (k < n → ∀ (t : Nat) (w1 : World), t < n → Below wr.heap.size wr w1 → Calls Tryz.prog 155 #[.pointer (some ⟨r, 0, none⟩), .int .i64 (k : Int), .int .i64 (t : Int)] w1 fun e w2 => ∃ ao cp m M, m = (moveO (siftN S.order n S.live k) k t).length ∧ M = (allT (moveO (siftN S.order n S.live k) k t) S.live).length ∧ M ≤ 1000000000 ∧ e = .returned (.slice ao m cp) ∧ Below w1.heap.size w1 w2 ∧ w2.ownsRow wr.heap.size 3 1 (.slice ao m cp) m ((moveO (siftN S.order n S.live k) k t).map intv) ∧ w2.cell? ⟨r, 3, none⟩ = some (.slice lao nr lcap) ∧
        Calls Tryz.prog 108 #[.slice ao m cp, .slice lao nr lcap] w2 fun e w3 => ∃ ao3 c3, e = .returned (.slice ao3 M c3) ∧ Below w2.heap.size w2 w3) ∧
      (k < n → ∀ w2 bv ov, Below wr.heap.size wr w2 → BestAt wr.heap.size (siftN S.order n S.live k) k S.live n bv ov w2 → RefStep O w r (w2.setCell ⟨r, 2, none⟩ ov) { S with order := siftN S.order n S.live (k + 1) }) := by
    intro k wr hk hs
    rw [hn] at hs hk ⊢
    have hpk := hperm k hk
    have okk := ok.reorder hpk
    obtain ⟨ho, O1, ⟨nv, ov, lv, hA⟩, hg⟩ := hs
    obtain ⟨_, c1, c2, c3, _⟩ := ref_c hA
    obtain ⟨nao, ncap, en⟩ := owns_form hA.names.1
    obtain ⟨lao, lcap, el⟩ := owns_form hA.live.1
    rw [List.length_map] at en el
    dsimp only at en el
    subst en
    subst el
    refine ⟨nao, ncap, lao, lcap, S.live.length, c1, c3, hA.lt r hA.self, ?_, ?_, ?_⟩
    · intro w2 ov2 hb
      exact ⟨ov, (ref_c (hA.below hb)).2.2.1, frozen_of_heap (hA.below hb).cells⟩
    · intro hkn t w1 ht hb
      have hnd : (siftN S.order S.names.length S.live k).Nodup := hpk.nodup_iff.2 hd.1
      have hvk : k ∈ siftN S.order S.names.length S.live k := hpk.mem_iff.2 ((hd.2 k).2 hkn)
      have htl : t < (siftN S.order S.names.length S.live k).length := by rw [hpk.length_eq, ok.on]; exact ht
      have ho2 := (okk.reorder (moveO_perm2 (t := t) hvk)).ol
      refine (moved_all hA okk hnd k t hvk htl w1 hb).mono ?_
      rintro e w2 ⟨ao, cp, he, hb2, hown, d3, hall⟩
      exact ⟨ao, cp, _, _, rfl, rfl, allT_few ho2 ok.ll, he, hb2, hown, d3, hall⟩
    · intro hkn w2 bv ov2 hb hB
      rcases hB with ⟨h0, _⟩ | ⟨t', m, h1, h2, h3, ao, cp, n2, h4, h5, h6⟩
      · omega
      · have e1 : siftN S.order S.names.length S.live (k + 1) = bestTo (siftN S.order S.names.length S.live k) k S.live t' := by
          have : S.names.length - 1 = t' := by omega
          show bestTo (siftN S.order S.names.length S.live k) k S.live (S.names.length - 1) = _
          rw [this]
        rw [e1, h4]
        subst h5
        exact RefStep.then ho hg (order_stored hA hb h6 rfl)
  have HO : Hid _ := hopen
  have HS : Hid (RefStep O w r w { S with order := siftN S.order n S.live 0 }) := by
    have : RefStep O w r w { S with order := siftN S.order n S.live 0 } := by rw [hn]; exact hst
    exact this
  rw [← hn] at hn6 ⊢
  clear hopen hst hperm hd hI ok hn
  go_enter Tryz.func125, Tryz.ntmps125
  go_wp2_with fail
  go_loopw [2] (fun iv wr => ∃ k : Nat, k ≤ n ∧ iv = .int .i64 (k : Nat) ∧ RefStep O w r wr { S with order := siftN S.order n S.live k }) (fun iv _ => n - (intOf iv).toNat)
  case atStart => exact ⟨0, Nat.zero_le _, rfl, HS.out⟩
  case round =>
    obtain ⟨k, hk, rfl, hs⟩ := hrel
    clear HS
    obtain ⟨nao, ncap, lao, lcap, nr, c1, c3, hrl, hq, hm, hfin⟩ := HO.out k wr hk hs
    clear HO
    by_cases hkl : k < n
    · have HM : Hid _ := hm hkl
      have HF : Hid _ := hfin hkl
      have HQ : Hid _ := hq
      obtain ⟨ok', hok'⟩ : ∃ o, o = siftN S.order n S.live k := ⟨_, rfl⟩
      rw [← hok'] at HM HF
      clear hm hfin hq hs hok'
      obtain ⟨w1, hw1⟩ : ∃ w1, w1 = wr := ⟨_, rfl⟩
      subst hw1
      go_wp2_with fail
      go_loopw [3, 4, 5] (fun bv ov tv wr => ∃ t : Nat, t ≤ n ∧ tv = .int .i64 (t : Nat) ∧ Below w1.heap.size w1 wr ∧ BestAt w1.heap.size ok' k S.live t bv ov wr) (fun _ _ tv _ => n - (intOf tv).toNat)
      case atStart => exact ⟨0, Nat.zero_le _, rfl, Below.refl _ _, .inl ⟨rfl, rfl, rfl⟩⟩
      case round =>
        obtain ⟨t, ht, rfl, hb, hB⟩ := hrel
        have d1 := (hb.cell (p := ⟨r, 1, none⟩) hrl).trans c1
        by_cases htl : t < n
        · have hmv := HM.out t wr htl hb
          clear HM HQ c1 c3
          have hB2 := hB
          rcases hB with ⟨h0, rfl, rfl⟩ | ⟨t', m0, h0, hm0, rfl, ao0, cp0, n0, rfl, hn0, hown0⟩
          · have HT : Hid (t = 0) := h0
            clear hB2 HF h0
            go_wp2_with (first
              | (go_at_call 155; refine hmv.mono ?_; clear hmv; rintro e w3 ⟨ao, cp, m, M, hm, hM, hMl, rfl, hb3, ho3, d3, hall⟩; have HM1 : Hid _ := hm; have HM2 : Hid _ := hM; clear hm hM)
              | (go_at_call 108; refine hall.mono ?_; clear hall; rintro e w4 ⟨ao4, c4, rfl, hb4⟩; have HB4 : Hid (Below w1.heap.size w1 w4 ∧ BestAt w1.heap.size ok' k S.live (t + 1) (.int .i64 (M : Nat)) (.slice ao m cp) w4) := ⟨(hb.trans (hb3.mono hb.size)).trans (hb4.mono (Nat.le_trans hb.size hb3.size)), best_first HT.out HM1.out HM2.out (owns_below ho3 hb4 (Nat.le_refl _))⟩; clear ho3 hb3 hb4 d3))
            go_roundw
            case rel => exact ⟨t + 1, by omega, by go_num, HB4.out.1, HB4.out.2⟩
            case measure => simp [intOf]; omega
          · have e0 : decide ((m0 : Int) < 0) = false := by simp
            have HT : Hid (t = t' + 1) := h0
            have HB : Hid (BestAt w1.heap.size ok' k S.live t (.int .i64 (m0 : Nat)) (.slice ao0 n0 cp0) wr) := hB2
            have HM0 : Hid _ := hm0
            clear hB2 hm0 hown0 hn0 HF h0
            by_cases hlt : (allT (moveO ok' k t) S.live).length < m0
            · have HL : Hid _ := hlt
              clear hlt
              go_wp2_with (first
                | (go_at_call 155; refine hmv.mono ?_; clear hmv; rintro e w3 ⟨ao, cp, m, M, hm, hM, hMl, rfl, hb3, ho3, d3, hall⟩; have HM1 : Hid _ := hm; have HM2 : Hid _ := hM; clear hm hM)
                | (go_at_call 108; refine hall.mono ?_; clear hall; rintro e w4 ⟨ao4, c4, rfl, hb4⟩; have e1 : M < m0 := (by rw [HM2.out]; exact HL.out); have HB4 : Hid (Below w1.heap.size w1 w4 ∧ BestAt w1.heap.size ok' k S.live (t + 1) (.int .i64 (M : Nat)) (.slice ao m cp) w4) := ⟨(hb.trans (hb3.mono hb.size)).trans (hb4.mono (Nat.le_trans hb.size hb3.size)), best_take HT.out HM1.out HM2.out HM0.out HL.out (owns_below ho3 hb4 (Nat.le_refl _))⟩; clear ho3 hb3 hb4 d3))
              go_roundw
              case rel => exact ⟨t + 1, by omega, by go_num, HB4.out.1, HB4.out.2⟩
              case measure => simp [intOf]; omega
            · have HL : Hid _ := hlt
              clear hlt
              go_wp2_with (first
                | (go_at_call 155; refine hmv.mono ?_; clear hmv; rintro e w3 ⟨ao, cp, m, M, hm, hM, hMl, rfl, hb3, ho3, d3, hall⟩; have HM1 : Hid _ := hm; have HM2 : Hid _ := hM; clear hm hM)
                | (go_at_call 108; refine hall.mono ?_; clear hall; rintro e w4 ⟨ao4, c4, rfl, hb4⟩; have e1 : ¬ M < m0 := (by rw [HM2.out]; exact HL.out); have HB4 : Hid (Below w1.heap.size w1 w4 ∧ BestAt w1.heap.size ok' k S.live (t + 1) (.int .i64 (m0 : Nat)) (.slice ao0 n0 cp0) w4) := ⟨(hb.trans (hb3.mono hb.size)).trans (hb4.mono (Nat.le_trans hb.size hb3.size)), best_leave HT.out HM0.out HL.out ((HB.out.below hb3).below hb4)⟩; clear ho3 hb3 hb4 d3))
              go_roundw
              case rel => exact ⟨t + 1, by omega, by go_num, HB4.out.1, HB4.out.2⟩
              case measure => simp [intOf]; omega
        · have ht' : t = n := by omega
          subst ht'
          have hst := fun ov bv => HF.out wr bv ov hb
          have hB2 := hB
          rcases hB with ⟨h0, _⟩ | ⟨t', m0, h0, hm0, rfl, ao0, cp0, n0, rfl, hn0, hown0⟩
          · omega
          · obtain ⟨q, q1, q2⟩ := HQ.out wr (.slice none 0 0) hb
            have HS2 : Hid _ := hst _ _ hB2
            clear hst hB2 HM HF HQ hm0 hn0 hown0 h0
            go_wp2_with fail
            go_roundw
            case rel => exact ⟨k + 1, by omega, by go_num, HS2.out⟩
            case measure => simp [intOf]; omega
    · have e : k = n := by omega
      subst e
      have HS : Hid _ := hs
      clear hm hfin hq hs
      go_wp2_with fail
      go_end0
      exact ⟨rfl, HS.out⟩

end Go.Proofs.YtebfmcafmojlaaaGreatDoor

/-
  WHAT copselaw ASKS OF THE PROGRAM BESIDES: Order, Live, Collect, Move, Sift; a twin whose order, or whose live handles, have turned.
-/
namespace Go.Proofs.YtebfmcafmojlaaaGreatDoor
open Go.RowKit Go.Maps
set_option linter.unusedSimpArgs false
set_option linter.unusedVariables false

structure CopseSpec2 (I : (Nat → Prop) → World → Nat → CopS → Prop) (cF cT : Nat) : Prop where
  b : CopseSpec I cF cT
  ord : ∀ {O w x C}, I O w x C → C.order.Nodup ∧ ∀ v, v ∈ C.order ↔ v < C.names.length
  order : ∀ {O w x C}, I O w x C → Calls Tryz.prog 15 #[.pointer (some ⟨x, 0, none⟩)] w fun e w' => ∃ v, e = .returned v ∧ w'.ownsRow w.heap.size 9 1 v C.order.length ((namesO C.names C.order).map Value.string) ∧ Below w.heap.size w w'
  live : ∀ {O w x C}, I O w x C → ∀ L, Lists C L → Calls Tryz.prog 21 #[.pointer (some ⟨x, 0, none⟩)] w fun e w' => e = .returned (.int .i64 ((allT C.order L).length : Nat)) ∧ w' = w
  move_name : ∀ {O w x C}, I O w x C → ∀ name t, namedI C.names name = -1 → Calls Tryz.prog 16 #[.pointer (some ⟨x, 0, none⟩), .string name, .int .i64 t] w fun e w' => e = .returned (.int .i64 2) ∧ CopStep I O w x w' C
  move_arg : ∀ {O w x C}, I O w x C → ∀ name t, i64ok t → 0 ≤ namedI C.names name → (t < 0 ∨ (C.names.length : Int) ≤ t) → Calls Tryz.prog 16 #[.pointer (some ⟨x, 0, none⟩), .string name, .int .i64 t] w fun e w' => e = .returned (.int .i64 1) ∧ CopStep I O w x w' C
  move : ∀ {O w x C}, I O w x C → ∀ L, Lists C L → ∀ name (v t : Nat), C.names.findIdx? (fun y => y.toList == name.toList) = some v → t < C.names.length → Calls Tryz.prog 16 #[.pointer (some ⟨x, 0, none⟩), .string name, .int .i64 (t : Int)] w fun e w' =>
    (C.cap < ((allT (moveO C.order v t) L).length : Int) ∧ e = .returned (.int .i64 5) ∧ CopStep I O w x w' C) ∨ (¬ C.cap < ((allT (moveO C.order v t) L).length : Int) ∧ e = .returned (.int .i64 0) ∧ CopStep I O w x w' { C with order := moveO C.order v t })
  sift : ∀ {O w x C}, I O w x C → ∀ L, Lists C L → Calls Tryz.prog 124 #[.pointer (some ⟨x, 0, none⟩)] w fun e w' => e = .returned (.tuple #[]) ∧ CopStep I O w x w' { C with order := siftN C.order C.names.length L C.names.length }
  coll_no : ∀ {O w x C}, I O w x C → ∀ (hs : List Int) (fv : Value), Reads w.heap.size w fv (hs.map zv) → hs.length ≤ 2000000 → (∀ z ∈ hs, i64ok z) → (∃ z ∈ hs, z < 0) → Calls Tryz.prog 71 #[.pointer (some ⟨x, 0, none⟩), fv] w fun e w' => e = .returned (.int .i64 4) ∧ CopStep I O w x w' C
  coll : ∀ {O w x C}, I O w x C → ∀ (hs : List Nat) (fv : Value), (∀ y ∈ hs, ∃ f, C.T y = some f) → Reads w.heap.size w fv (hs.map intv) → (∀ ad n c, fv = .slice (some ad) n c → ¬ O ad.block) → hs.length ≤ 2000000 → Calls Tryz.prog 71 #[.pointer (some ⟨x, 0, none⟩), fv] w fun e w' => e = .returned (.int .i64 0) ∧ ∃ T', (∀ r f, T' r = some f ↔ (r = cF ∨ r = cT ∨ r ∈ hs) ∧ C.T r = some f) ∧ CopStep I O w x w' { C with T := T' }

theorem copseSpec2 : CopseSpec2 CopI 1 0 where
  b := copseSpec
  ord := fun h => h.ord
  order := fun h => copseOrder_is h
  live := fun h L hL => copseLive_is h L hL
  move_name := fun h name t hn => by
    refine (copseMove_name h name t hn).mono ?_
    rintro e w' ⟨he, rfl⟩
    exact ⟨he, h.step (Below.refl _ _)⟩
  move_arg := fun h name t ht hn hto => by
    refine (copseMove_arg h name t ht hn hto).mono ?_
    rintro e w' ⟨he, rfl⟩
    exact ⟨he, h.step (Below.refl _ _)⟩
  move := fun h L hL name v t hv ht => copseMove_is h L hL name v t hv ht
  sift := fun h L hL => copseSift_is h L hL
  coll_no := fun h hs fv hr hl hz hn => copseCollect_no h hs fv hr hl hz hn
  coll := fun h hs fv hT hr hfo hl => by
    refine (copseCollect_is h hs hT fv hr hfo hl).mono ?_
    rintro e w' ⟨he, hst⟩
    refine ⟨he, (collC _ hs).T, fun r f => ?_, hst⟩
    rw [collC_T]
    constructor
    · rintro ⟨h1 | h1 | h1, h2⟩
      · exact ⟨.inr (.inl h1), h2⟩
      · exact ⟨.inl h1, h2⟩
      · exact ⟨.inr (.inr h1), h2⟩
    · rintro ⟨h1 | h1 | h1, h2⟩
      · exact ⟨.inr (.inl h1), h2⟩
      · exact ⟨.inl h1, h2⟩
      · exact ⟨.inr (.inr h1), h2⟩

theorem TwOk.reorder {cF cT N : Nat} {C : CopS} {S : RefS} {l : List (Nat × Tab)} (ok : TwOk cF cT N C S l) {o : List Nat} (hp : o.Perm S.order) : TwOk cF cT N { C with order := o } { S with order := o } l :=
  ⟨ok.cap, ok.names, rfl, by show o.length ≤ 6; rw [hp.length_eq]; exact ok.ol, fun x hx => ok.o6 x (hp.mem_iff.1 hx), by show o.length = _; rw [hp.length_eq]; exact ok.on, fun x hx => ok.ord x (hp.mem_iff.1 hx), ok.ll, ok.l2, ok.lN, ok.l0, ok.l1, ok.mem, ok.small, ok.lists⟩

theorem TwOk.nodup {I : (Nat → Prop) → World → Nat → CopS → Prop} {cF cT N : Nat} (sp : CopseSpec2 I cF cT) {C : CopS} {S : RefS} {l : List (Nat × Tab)} (ok : TwOk cF cT N C S l) {O : Nat → Prop} {w : World} {x : Nat} (hc : I O w x C) : S.order.Nodup ∧ ∀ v, v ∈ S.order ↔ v < S.names.length := by
  have h := sp.ord hc
  rw [ok.order, ok.names] at h
  exact h

/-- Both sides have gone on to the copses C' and S'. -/
theorem tw_both {I : (Nat → Prop) → World → Nat → CopS → Prop} {cF cT : Nat} (sp : CopseSpec I cF cT) {w w1 w2 w3 : World} {tb x r N : Nat} {C C' : CopS} {S S' : RefS} {l : List (Nat × Tab)} {av : Value} {OT OX OR : Nat → Prop} (h : TwSt I w tb x r C S l av OT OX OR) (hb : Below w.heap.size w w1)
    (hs : CopStep I OX w1 x w2 C') (hr : RefStep OR w2 r w3 S') (ok' : TwOk cF cT N C' S' l) : TwPostX I cF cT w tb (N + 1) (Un OT OX OR) S' (l.map Prod.snd) w3 := by
  obtain ⟨OX', g2, ho2, hg2⟩ := (h.below sp hb).stepC sp hs
  obtain ⟨OR', g3, ho3, hg3⟩ := g2.stepS sp hr
  refine ⟨?_, Un OT OX' OR', ⟨x, r, C', l, av, OT, OX', OR', g3, ok'.mono (Nat.le_succ N), fun b => Iff.rfl, rfl⟩, ?_⟩
  · have o1 : Only (Un OT OX OR) w w2 := (only_of_below hb _).trans (ho2.mono (O' := Un OT OX OR) (fun b hb => .inr (.inl hb))) (Grows.refl _ _)
    exact o1.trans (ho3.mono (O' := Un OT OX OR) (fun b hb => .inr (.inr hb))) (Grows.refl _ _)
  · intro b hb'
    rcases hb' with e | e | e
    · exact .inl (.inl e)
    · rcases hg2 b e with e | e
      · exact .inl (.inr (.inl e))
      · exact .inr (Nat.le_trans hb.size e)
    · rcases hg3 b e with e | e
      · exact .inl (.inr (.inr e))
      · exact .inr (Nat.le_trans (Nat.le_trans hb.size ho2.size) e)

theorem refOrdered_is {O : Nat → Prop} {w : World} {r : Nat} {S : RefS} (h : RefIs O w r S) (ok : RefOk S) (on' : ∀ x ∈ S.order, x < S.names.length) :
    Calls Tryz.prog 121 #[.pointer (some ⟨r, 0, none⟩)] w fun e w' => ∃ v', e = .returned v' ∧ w'.ownsRow w.heap.size 9 1 v' S.order.length ((namesO S.names S.order).map Value.string) ∧ Below w.heap.size w w' := by
  obtain ⟨nv, ov, lv, h⟩ := h
  exact refOrdered h ok on'

theorem refSize_is {O : Nat → Prop} {w : World} {r : Nat} {S : RefS} (h : RefIs O w r S) (ok : RefOk S) :
    Calls Tryz.prog 122 #[.pointer (some ⟨r, 0, none⟩)] w fun e w' => e = .returned (.int .i64 ((allT S.order S.live).length : Nat)) ∧ Below w.heap.size w w' := by
  obtain ⟨nv, ov, lv, h⟩ := h
  exact refSize h ok

/-- What Collect leaves of the live handles. -/
def collL (l : List (Nat × Tab)) (fs : List Tab) : List (Nat × Tab) := (l.drop 2).filter (fun p => decide (p.2 ∈ fs))

theorem take2 {l : List (Nat × Tab)} {a b : Nat × Tab} (h2 : 2 ≤ l.length) (h0 : l.getD 0 (0, 0) = a) (h1 : l.getD 1 (0, 0) = b) : l.take 2 = [a, b] := by
  match l, h2 with
  | p :: q :: l, _ =>
    simp at h0 h1
    simp [h0, h1]

theorem TwOk.coll {cF cT N : Nat} {C : CopS} {S : RefS} {l : List (Nat × Tab)} (ok : TwOk cF cT N C S l) (inj : ∀ {a b f}, C.T a = some f → C.T b = some f → a = b) {hs : List Nat} {fs : List Tab} (hT : hs.map C.T = fs.map some) {T' : Nat → Option Tab} (hT' : ∀ r f, T' r = some f ↔ (r = cF ∨ r = cT ∨ r ∈ hs) ∧ C.T r = some f) :
    TwOk cF cT N { C with T := T' } { S with live := (collL l fs).map Prod.snd } (l.take 2 ++ collL l fs) := by
  have ht2 := take2 ok.l2 ok.l0 ok.l1
  have hlen : (collL l fs).length ≤ N := by
    have h1 : (collL l fs).length ≤ (l.drop 2).length := List.length_filter_le _ _
    have h2 := ok.lN
    rw [List.length_drop] at h1
    omega
  have hTl : ∀ h f, C.T h = some f ↔ (h, f) ∈ l := ok.mem
  have hsplit : ∀ p, p ∈ l ↔ p ∈ l.take 2 ∨ p ∈ l.drop 2 := by
    intro p
    rw [← List.mem_append, List.take_append_drop]
  have hF : C.T cF = some 0 := (hTl cF 0).2 ((hsplit _).2 (.inl (by rw [ht2]; simp)))
  have hO : C.T cT = some onesT := (hTl cT onesT).2 ((hsplit _).2 (.inl (by rw [ht2]; simp)))
  have hfs : ∀ f, f ∈ fs → ∃ h ∈ hs, C.T h = some f := by
    intro f hf
    have : some f ∈ fs.map some := List.mem_map.2 ⟨f, hf, rfl⟩
    rw [← hT] at this
    obtain ⟨h, h1, h2⟩ := List.mem_map.1 this
    exact ⟨h, h1, h2⟩
  have hhs : ∀ h, h ∈ hs → ∃ f ∈ fs, C.T h = some f := by
    intro h hh
    have : C.T h ∈ hs.map C.T := List.mem_map.2 ⟨h, hh, rfl⟩
    rw [hT] at this
    obtain ⟨f, h1, h2⟩ := List.mem_map.1 this
    exact ⟨f, h1, h2.symm⟩
  have hmem : ∀ h f, T' h = some f ↔ (h, f) ∈ l.take 2 ++ collL l fs := by
    intro h f
    rw [hT', List.mem_append, ht2]
    unfold collL
    rw [List.mem_filter]
    simp only [List.mem_cons, List.not_mem_nil, or_false, Prod.mk.injEq, decide_eq_true_eq]
    constructor
    · rintro ⟨h1, h2⟩
      have h3 := (hTl h f).1 h2
      rcases h1 with h1 | h1 | h1
      · subst h1
        rw [hF] at h2
        simp at h2
        exact .inl (.inl ⟨rfl, h2.symm⟩)
      · subst h1
        rw [hO] at h2
        simp at h2
        exact .inl (.inr ⟨rfl, h2.symm⟩)
      · rcases (hsplit _).1 h3 with h4 | h4
        · rw [ht2] at h4
          simp at h4
          exact .inl h4
        · obtain ⟨f', h5, h6⟩ := hhs h h1
          rw [h2] at h6
          simp at h6
          subst h6
          exact .inr ⟨h4, h5⟩
    · rintro ((⟨rfl, rfl⟩ | ⟨rfl, rfl⟩) | ⟨h1, h2⟩)
      · exact ⟨.inl rfl, hF⟩
      · exact ⟨.inr (.inl rfl), hO⟩
      · have h3 := (hTl h f).2 ((hsplit _).2 (.inr h1))
        obtain ⟨h', h4, h5⟩ := hfs f h2
        have := inj h3 h5
        subst this
        exact ⟨.inr (.inr h4), h3⟩
  refine ⟨ok.cap, ok.names, ok.order, ok.ol, ok.o6, ok.on, ok.ord, ?_, ?_, ?_, ?_, ?_, hmem, ?_, ?_⟩
  · show ((collL l fs).map Prod.snd).length ≤ N
    rw [List.length_map]; exact hlen
  · rw [ht2]; simp
  · rw [ht2]; simp; omega
  · rw [ht2]; rfl
  · rw [ht2]; rfl
  · intro p hp
    refine ok.small p ((hsplit p).2 ?_)
    rcases List.mem_append.1 hp with h1 | h1
    · exact .inl h1
    · exact .inr (List.mem_filter.1 h1).1
  · intro f
    show (∃ h, T' h = some f) ↔ (f ∈ (collL l fs).map Prod.snd ∨ f = 0 ∨ f = onesT)
    constructor
    · rintro ⟨h, h1⟩
      rcases List.mem_append.1 ((hmem h f).1 h1) with h2 | h2
      · rw [ht2] at h2
        simp at h2
        rcases h2 with h2 | h2
        · exact .inr (.inl h2.2)
        · exact .inr (.inr h2.2)
      · exact .inl (List.mem_map.2 ⟨(h, f), h2, rfl⟩)
    · rintro (h1 | h1 | h1)
      · obtain ⟨p, h2, h3⟩ := List.mem_map.1 h1
        exact ⟨p.1, (hmem _ _).2 (List.mem_append.2 (.inr (by rw [← h3]; exact h2)))⟩
      · exact ⟨cF, (hmem _ _).2 (List.mem_append.2 (.inl (by rw [ht2, h1]; simp)))⟩
      · exact ⟨cT, (hmem _ _).2 (List.mem_append.2 (.inl (by rw [ht2, h1]; simp)))⟩

end Go.Proofs.YtebfmcafmojlaaaGreatDoor

