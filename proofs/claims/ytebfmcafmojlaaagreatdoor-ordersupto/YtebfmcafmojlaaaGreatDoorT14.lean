/-
  The key types of the graph's tables.
-/
import Derived.DeepKeys4
import Derived.Test.YtebfmcafmojlaaaGreatDoorT12
import Derived.Test.YtebfmcafmojlaaaGreatDoorT13
import Derived.Test.YtebfmcafmojlaaaGreatDoorT11
import Derived.Test.YtebfmcafmojlaaaGreatDoorT01
import Derived.Test.YtebfmcafmojlaaaGreatDoorT06
namespace Go.Proofs.YtebfmcafmojlaaaGreatDoor
open Go.RowKit Go.Maps
set_option linter.unusedSimpArgs false
set_option linter.unusedVariables false

theorem Tryz.laidOutIs : laidOutB Tryz.prog = true := by kernel_rfl
theorem Tryz.nodeRow' : decide (214 < Tryz.prog.types.size) = true := by kernel_rfl
theorem Tryz.nodeRow : 214 < Tryz.prog.types.size := of_decide_eq_true Tryz.nodeRow'
theorem Tryz.tripRow' : decide (163 < Tryz.prog.types.size) = true := by kernel_rfl
theorem Tryz.tripRow : 163 < Tryz.prog.types.size := of_decide_eq_true Tryz.tripRow'
theorem Tryz.nodeKey : Tryz.prog.keyTypeAt 3 214 = true := by kernel_rfl
theorem Tryz.nodeKey' : Tryz.prog.keyType 214 = true := by kernel_rfl
theorem Tryz.tripKey : Tryz.prog.keyTypeAt 3 163 = true := by kernel_rfl
theorem Tryz.tripKey' : Tryz.prog.keyType 163 = true := by kernel_rfl
theorem Tryz.nodeCells : Tryz.prog.cellsOf 214 = 3 := by kernel_rfl
theorem Tryz.tripCells : Tryz.prog.cellsOf 163 = 3 := by kernel_rfl
theorem Tryz.intCells : Tryz.prog.cellsOf 3 = 1 := by kernel_rfl
theorem Tryz.refCells : Tryz.prog.cellsOf 80 = 1 := by kernel_rfl

theorem node_keyed : Keyed Tryz.prog 214 := Keyed.of_law (deep_law_laid Tryz.laidOutIs (m := 3) (by omega) Tryz.nodeRow Tryz.nodeKey (by rw [Tryz.underlying214]))
theorem trip_keyed : Keyed Tryz.prog 163 := Keyed.of_law (deep_law_laid Tryz.laidOutIs (m := 3) (by omega) Tryz.tripRow Tryz.tripKey (by rw [Tryz.underlying163]))
theorem ref_keyed : Keyed Tryz.prog 80 := int_keyed Tryz.underlying80

def key3 (a b c : Nat) : Value := .agg #[.int .i64 (a : Int), .int .i64 (b : Int), .int .i64 (c : Int)]

theorem wf_i64_nat (n : Nat) (h : n < refMax) : (Lit.int .i64 (n : Int)).wf = true := by
  unfold refMax at h
  exact WalkArith.wf_i64 (by omega)

theorem keyLits_int {P : Program} {d t : Nat} {q : IntKind} {n : Int} (h : P.underlying t = some (.int q)) (hw : (Lit.int q n).wf = true) : P.keyLits (d + 1) t [.int q n] = some [.int q n] := by
  simp [Program.keyLits, h, hw]

theorem types_succ : ∃ m, Tryz.prog.types.size = m + 1 := ⟨Tryz.prog.types.size - 1, by have := Tryz.nodeRow; omega⟩

theorem node_key_ok (a b c : Nat) (ha : a < refMax) (hb : b < refMax) (hc : c < refMax) : KeyOk Tryz.prog 214 (key3 a b c) := by
  obtain ⟨m, hm⟩ := types_succ
  have h1 := keyLits_int (d := m) Tryz.underlying3 (wf_i64_nat a ha)
  have h2 := keyLits_int (d := m) Tryz.underlying80 (wf_i64_nat b hb)
  have h3 := keyLits_int (d := m) Tryz.underlying80 (wf_i64_nat c hc)
  unfold KeyOk keyOf key3
  rw [Tryz.underlying214]
  simp only
  rw [Tryz.nodeKey']
  have hf : Value.formed Tryz.prog 214 (.agg #[.int .i64 (a : Int), .int .i64 (b : Int), .int .i64 (c : Int)]) = true := by
    unfold Value.formed
    rw [Tryz.underlying214, Tryz.nodeCells]
    rfl
  rw [hf]
  have hk : ∃ ls, Tryz.prog.keyLits (Tryz.prog.types.size + 1) 214 (Value.agg #[.int .i64 (a : Int), .int .i64 (b : Int), .int .i64 (c : Int)]).cells.toList = some ls := by
    rw [hm]
    unfold Program.keyLits
    rw [Tryz.underlying214]
    simp [Value.cells, Tryz.nodeCells, Tryz.intCells, Tryz.refCells, h1, h2, h3]
  obtain ⟨ls, hls⟩ := hk
  rw [hls]
  simp

theorem trip_key_ok (a b c : Nat) (ha : a < refMax) (hb : b < refMax) (hc : c < refMax) : KeyOk Tryz.prog 163 (key3 a b c) := by
  obtain ⟨m, hm⟩ := types_succ
  have h1 := keyLits_int (d := m) Tryz.underlying80 (wf_i64_nat a ha)
  have h2 := keyLits_int (d := m) Tryz.underlying80 (wf_i64_nat b hb)
  have h3 := keyLits_int (d := m) Tryz.underlying80 (wf_i64_nat c hc)
  unfold KeyOk keyOf key3
  rw [Tryz.underlying163]
  simp only
  rw [Tryz.tripKey']
  have hf : Value.formed Tryz.prog 163 (.agg #[.int .i64 (a : Int), .int .i64 (b : Int), .int .i64 (c : Int)]) = true := by
    unfold Value.formed
    rw [Tryz.underlying163, Tryz.tripCells]
    rfl
  rw [hf]
  have hk : ∃ ls, Tryz.prog.keyLits (Tryz.prog.types.size + 1) 163 (Value.agg #[.int .i64 (a : Int), .int .i64 (b : Int), .int .i64 (c : Int)]).cells.toList = some ls := by
    rw [hm]
    unfold Program.keyLits
    rw [Tryz.underlying163]
    simp [Value.cells, Tryz.tripCells, Tryz.refCells, h1, h2, h3, List.range_succ]
  obtain ⟨ls, hls⟩ := hk
  rw [hls]
  simp

theorem ref_key_ok (n : Int) (h : (Lit.int .i64 n).wf = true) : KeyOk Tryz.prog 80 (.int .i64 n) := ⟨_, keyOf_int_mk Tryz.underlying80 h⟩

theorem key3_inj {a b c a' b' c' : Nat} (h : key3 a b c = key3 a' b' c') : a = a' ∧ b = b' ∧ c = c' := by
  unfold key3 at h
  simp at h
  omega

end Go.Proofs.YtebfmcafmojlaaaGreatDoor

/-
  The nodes of some references, by numbers, against the tables that come out.
-/
namespace Go.Proofs.YtebfmcafmojlaaaGreatDoor
set_option linter.unusedSimpArgs false
set_option linter.unusedVariables false

def Gr.dfs (G : Gr) : Nat → List Nat → Nat → List Nat
  | 0, l, _ => l
  | n + 1, l, r =>
    if r / 2 ∈ l then l else
    match G.node (r / 2) with
    | none => l
    | some nd => G.dfs n (G.dfs n l nd.t) nd.e ++ [r / 2]

def Gr.has (G : Gr) (i : Nat) : Prop := ∃ n, G.node i = some n

theorem Gr.Ok.top_node {G : Gr} (k : G.Ok) {i : Nat} {n : Nd} (h : G.node i = some n) : topO G.order (G.sem i) = some n.v := by
  unfold topO
  rw [List.find?_eq_some_iff_getElem]
  refine ⟨k.hangs_top h, G.idx n.v, k.idx_lt h, List.getElem_idxOf (k.idx_lt h), ?_⟩
  intro j hj
  have hjl : j < G.order.length := Nat.lt_trans hj (k.idx_lt h)
  have hm : G.order[j] ∈ G.order := List.getElem_mem hjl
  have hi : G.idx G.order[j] = j := List.Nodup.idxOf_getElem k.nodup j hjl
  have := k.ahead (r := 2 * i) (v := G.order[j]) (.inr (by simpa using ⟨n, h⟩)) (k.lt6 _ hm) (.inl (by rw [hi, Gr.lev_node (n := n) (by simpa using h)]; exact hj))
  rw [Gr.hangs_tab _ _ (k.lt6 _ hm)] at this
  simpa using this

theorem Gr.Ok.top_const {G : Gr} (k : G.Ok) : topO G.order (G.sem 0) = none := by
  unfold topO
  rw [List.find?_eq_none]
  intro v hv
  rw [k.sem0, hangs_ones v (k.lt6 v hv)]
  simp

/-- The tables that come out are those of the nodes, one by one. -/
theorem Gr.Ok.nodes_dfs {G : Gr} (k : G.Ok) : ∀ (n : Nat) (l : List Nat) (r : Nat), (∀ i ∈ l, G.has i) → G.ok r →
    nodesT G.order n (l.map G.sem) (G.tab r) = (G.dfs n l r).map G.sem ∧ ∀ i ∈ G.dfs n l r, G.has i := by
  intro n
  induction n with
  | zero => intro l r hl _; exact ⟨rfl, hl⟩
  | succ n ih =>
    intro l r hl hr
    unfold nodesT Gr.dfs
    rw [k.written hr]
    rcases hr with h | ⟨nd, h⟩
    · rw [h, k.top_const, k.zero]
      have hn0 : 0 ∉ l := by intro e; obtain ⟨n, hn⟩ := hl 0 e; rw [k.zero] at hn; cases hn
      simp only [hn0, if_false]
      refine ⟨?_, hl⟩
      split <;> rfl
    · rw [h, k.top_node h]
      have hm : G.sem (r / 2) ∈ l.map G.sem ↔ r / 2 ∈ l := by
        constructor
        · intro e
          obtain ⟨j, hj, e⟩ := List.mem_map.1 e
          rw [k.sem_inj ⟨nd, h⟩ (hl j hj) e.symm]
          exact hj
        · intro e; exact List.mem_map.2 ⟨_, e, rfl⟩
      by_cases hin : r / 2 ∈ l
      · rw [if_pos (hm.2 hin), if_pos hin]
        exact ⟨rfl, hl⟩
      · rw [if_neg (fun e => hin (hm.1 e)), if_neg hin]
        simp only
        rw [k.given_node h true, k.given_node h false]
        simp only [if_true]
        obtain ⟨e1, h1⟩ := ih l nd.t hl (k.tok h)
        obtain ⟨e2, h2⟩ := ih (G.dfs n l nd.t) nd.e h1 (k.eok h)
        rw [e1]
        simp only [Bool.false_eq_true, if_false]
        rw [e2]
        refine ⟨by simp, ?_⟩
        intro i hi
        rcases List.mem_append.1 hi with e | e
        · exact h2 i e
        · simp at e; subst e; exact ⟨nd, h⟩

theorem Gr.dfs_sub (G : Gr) : ∀ (n : Nat) (l : List Nat) (r i : Nat), i ∈ l → i ∈ G.dfs n l r := by
  intro n
  induction n with
  | zero => intro l r i h; exact h
  | succ n ih =>
    intro l r i h
    unfold Gr.dfs
    split
    · exact h
    · split
      · exact h
      · exact List.mem_append_left _ (ih _ _ _ (ih _ _ _ h))

theorem Gr.Ok.dfs_lev {G : Gr} (k : G.Ok) : ∀ (n : Nat) (l : List Nat) (r i : Nat), i ∈ G.dfs n l r → i ∈ l ∨ G.lev r ≤ G.lev (2 * i) := by
  intro n
  induction n with
  | zero => intro l r i h; exact .inl h
  | succ n ih =>
    intro l r i h
    unfold Gr.dfs at h
    split at h
    · exact .inl h
    · split at h
      · exact .inl h
      · rename_i nd hn
        have h1 := k.tlev hn
        have h2 := k.elev hn
        rw [Gr.lev_node hn]
        rcases List.mem_append.1 h with e | e
        · rcases ih _ _ _ e with e | e
          · rcases ih _ _ _ e with e | e
            · exact .inl e
            · exact .inr (by omega)
          · exact .inr (by omega)
        · simp at e; subst e
          right
          rw [Gr.lev_node (n := nd) (by simpa using hn)]
          exact Nat.le_refl _

theorem Gr.Ok.dfs_nodup {G : Gr} (k : G.Ok) : ∀ (n : Nat) (l : List Nat) (r : Nat), l.Nodup → (G.dfs n l r).Nodup := by
  intro n
  induction n with
  | zero => intro l r h; exact h
  | succ n ih =>
    intro l r h
    unfold Gr.dfs
    split
    · exact h
    · rename_i hni
      split
      · exact h
      · rename_i nd hn
        rw [List.nodup_append]
        refine ⟨ih _ _ (ih _ _ h), by simp, ?_⟩
        intro a ha b hb
        simp at hb
        subst hb
        intro e
        subst e
        have h1 := k.tlev hn
        have h2 := k.elev hn
        have h3 := Gr.lev_node (G := G) (r := 2 * (r / 2)) (n := nd) (by simpa using hn)
        rcases k.dfs_lev _ _ _ _ ha with e | e
        · rcases k.dfs_lev _ _ _ _ e with e | e
          · exact hni e
          · omega
        · omega

def Gr.Closed (G : Gr) (S : Nat → Prop) : Prop := ∀ i, S i → ∀ n, G.node i = some n → (n.t / 2 = 0 ∨ S (n.t / 2)) ∧ (n.e / 2 = 0 ∨ S (n.e / 2))

/-- The nodes that some references reach. -/
def Gr.Reach (G : Gr) (R : Nat → Prop) (i : Nat) : Prop := G.has i ∧ ∀ S : Nat → Prop, G.Closed S → (∀ r, R r → r / 2 = 0 ∨ S (r / 2)) → S i

theorem Gr.Ok.dfs_has {G : Gr} (k : G.Ok) : ∀ (n : Nat) (l : List Nat) (r : Nat), G.ok r → G.order.length - G.lev r < n → r / 2 = 0 ∨ r / 2 ∈ G.dfs n l r := by
  intro n l r hr hn
  rcases hr with h | ⟨nd, h⟩
  · exact .inl h
  · right
    cases n with
    | zero => omega
    | succ n =>
      unfold Gr.dfs
      split
      · assumption
      · rw [h]; simp

theorem Gr.Ok.dfs_closed {G : Gr} (k : G.Ok) : ∀ (n : Nat) (l : List Nat) (r : Nat), G.ok r → G.order.length - G.lev r < n → G.Closed (· ∈ l) → G.Closed (· ∈ G.dfs n l r) := by
  intro n
  induction n with
  | zero => intro l r _ hn; omega
  | succ n ih =>
    intro l r hr hn hc
    unfold Gr.dfs
    split
    · exact hc
    · rename_i hni
      split
      · exact hc
      · rename_i nd hnd
        have h1 := k.tlev hnd
        have h2 := k.elev hnd
        have h3 := k.idx_lt hnd
        rw [Gr.lev_node hnd] at hn
        have c1 := ih l nd.t (k.tok hnd) (by omega) hc
        have c2 := ih (G.dfs n l nd.t) nd.e (k.eok hnd) (by omega) c1
        have m1 := k.dfs_has n l nd.t (k.tok hnd) (by omega)
        have m2 := k.dfs_has n (G.dfs n l nd.t) nd.e (k.eok hnd) (by omega)
        intro i hi n' hn'
        rcases List.mem_append.1 hi with e | e
        · obtain ⟨a, b⟩ := c2 i e n' hn'
          exact ⟨a.imp id (List.mem_append_left _), b.imp id (List.mem_append_left _)⟩
        · simp at e
          subst e
          rw [hnd] at hn'
          cases hn'
          exact ⟨m1.imp id (fun e => List.mem_append_left _ (Gr.dfs_sub _ _ _ _ _ e)), m2.imp id (List.mem_append_left _)⟩

theorem Gr.dfs_min (G : Gr) {S : Nat → Prop} (hS : G.Closed S) : ∀ (n : Nat) (l : List Nat) (r : Nat), (∀ i ∈ l, S i) → (r / 2 = 0 ∨ S (r / 2)) → G.node 0 = none → ∀ i ∈ G.dfs n l r, S i := by
  intro n
  induction n with
  | zero => intro l r h _ _; exact h
  | succ n ih =>
    intro l r h hr h0
    unfold Gr.dfs
    split
    · exact h
    · split
      · exact h
      · rename_i nd hnd
        have hs : S (r / 2) := by
          rcases hr with e | e
          · rw [e, h0] at hnd; cases hnd
          · exact e
        obtain ⟨a, b⟩ := hS _ hs nd hnd
        intro i hi
        rcases List.mem_append.1 hi with e | e
        · exact ih _ _ (ih _ _ h a h0) b h0 i e
        · simp at e; subst e; exact hs

def Gr.dfsAll (G : Gr) (rs : List Nat) : List Nat := rs.foldl (G.dfs (G.order.length + 1)) []

theorem Gr.Ok.fold_dfs {G : Gr} (k : G.Ok) : ∀ (rs : List Nat) (l : List Nat), (∀ i ∈ l, G.has i) → l.Nodup → G.Closed (· ∈ l) → (∀ r ∈ rs, G.ok r) →
    (rs.map G.tab).foldl (nodesT G.order (G.order.length + 1)) (l.map G.sem) = (rs.foldl (G.dfs (G.order.length + 1)) l).map G.sem ∧
    (∀ i ∈ rs.foldl (G.dfs (G.order.length + 1)) l, G.has i) ∧ (rs.foldl (G.dfs (G.order.length + 1)) l).Nodup ∧ G.Closed (· ∈ rs.foldl (G.dfs (G.order.length + 1)) l) ∧
    (∀ i ∈ l, i ∈ rs.foldl (G.dfs (G.order.length + 1)) l) ∧ (∀ r ∈ rs, r / 2 = 0 ∨ r / 2 ∈ rs.foldl (G.dfs (G.order.length + 1)) l) ∧
    (∀ S, G.Closed S → (∀ i ∈ l, S i) → (∀ r ∈ rs, r / 2 = 0 ∨ S (r / 2)) → ∀ i ∈ rs.foldl (G.dfs (G.order.length + 1)) l, S i) := by
  intro rs
  induction rs with
  | nil => intro l h1 h2 h3 _; exact ⟨rfl, h1, h2, h3, fun i h => h, by simp, fun S _ h _ => h⟩
  | cons r rs ih =>
    intro l h1 h2 h3 h4
    have hr := h4 r (List.mem_cons_self)
    have hf : G.order.length - G.lev r < G.order.length + 1 := by omega
    obtain ⟨e, hh⟩ := k.nodes_dfs (G.order.length + 1) l r h1 hr
    obtain ⟨a1, a2, a3, a4, a5, a6, a7⟩ := ih (G.dfs (G.order.length + 1) l r) hh (k.dfs_nodup _ _ _ h2) (k.dfs_closed _ _ _ hr hf h3) (fun s hs => h4 s (List.mem_cons_of_mem _ hs))
    simp only [List.map_cons, List.foldl_cons]
    rw [e]
    refine ⟨a1, a2, a3, a4, fun i hi => a5 i (Gr.dfs_sub _ _ _ _ _ hi), ?_, ?_⟩
    · intro s hs
      rcases List.mem_cons.1 hs with e | e
      · subst e
        exact (k.dfs_has _ l s hr hf).imp id (a5 _)
      · exact a6 s e
    · intro S hS hl hrs
      exact a7 S hS (Gr.dfs_min G hS _ _ _ hl (hrs r (List.mem_cons_self)) k.zero) (fun s hs => hrs s (List.mem_cons_of_mem _ hs))

theorem Gr.Ok.all_dfs {G : Gr} (k : G.Ok) (rs : List Nat) (h : ∀ r ∈ rs, G.ok r) :
    allT G.order (rs.map G.tab) = (G.dfsAll rs).map G.sem ∧ (G.dfsAll rs).Nodup ∧ ∀ i, i ∈ G.dfsAll rs ↔ G.Reach (· ∈ rs) i := by
  obtain ⟨a1, a2, a3, a4, a5, a6, a7⟩ := k.fold_dfs rs [] (by simp) (by simp) (by intro i hi; simp at hi) h
  refine ⟨a1, a3, fun i => ⟨fun hi => ⟨a2 i hi, fun S hS hr => a7 S hS (by simp) hr i hi⟩, fun ⟨_, hi⟩ => hi _ a4 a6⟩⟩

theorem length_of_same {l l' : List Nat} (h : l.Nodup) (h' : l'.Nodup) (e : ∀ i, i ∈ l ↔ i ∈ l') : l.length = l'.length :=
  ((List.perm_ext_iff_of_nodup h h').2 e).length_eq

/-- How many nodes: as many as are reached. -/
theorem Gr.Ok.count {G : Gr} (k : G.Ok) (rs : List Nat) (h : ∀ r ∈ rs, G.ok r) (N : List Nat) (hN : N.Nodup) (hm : ∀ i, i ∈ N ↔ G.Reach (· ∈ rs) i) : (allT G.order (rs.map G.tab)).length = N.length := by
  obtain ⟨a1, a2, a3⟩ := k.all_dfs rs h
  rw [a1, List.length_map]
  exact length_of_same a2 hN (fun i => (a3 i).trans (hm i).symm)

end Go.Proofs.YtebfmcafmojlaaaGreatDoor

/-
  A graph that grows: one node more; what is made on the way to an answer.
-/
namespace Go.Proofs.YtebfmcafmojlaaaGreatDoor
set_option linter.unusedSimpArgs false
set_option linter.unusedVariables false

def Gr.add (G : Gr) (i : Nat) (n : Nd) : Gr :=
  { G with node := fun j => if j = i then some n else G.node j, sem := fun j => if j = i then iteT (mask n.v) (G.tab n.t) (G.tab n.e) else G.sem j }

/-- G' has all that G has, under the same numbers. -/
structure Gr.Ext (G G' : Gr) : Prop where
  order : G'.order = G.order
  node : ∀ {i n}, G.node i = some n → G'.node i = some n
  sem : ∀ {i}, (i = 0 ∨ G.has i) → G'.sem i = G.sem i

theorem Gr.Ext.refl (G : Gr) : G.Ext G := ⟨rfl, id, fun _ => rfl⟩

theorem Gr.Ext.has {G G' : Gr} (h : G.Ext G') {i : Nat} (hi : G.has i) : G'.has i := by obtain ⟨n, hn⟩ := hi; exact ⟨n, h.node hn⟩

theorem Gr.Ext.trans {G G' G'' : Gr} (h : G.Ext G') (k : G'.Ext G'') : G.Ext G'' :=
  ⟨k.order.trans h.order, fun hn => k.node (h.node hn), fun hi => (k.sem (hi.imp id h.has)).trans (h.sem hi)⟩

theorem Gr.Ext.ok {G G' : Gr} (h : G.Ext G') {r : Nat} (hr : G.ok r) : G'.ok r := hr.imp id (fun hn => h.has hn)
theorem Gr.Ext.tab {G G' : Gr} (h : G.Ext G') {r : Nat} (hr : G.ok r) : G'.tab r = G.tab r := by unfold Gr.tab; rw [h.sem hr]
theorem Gr.Ext.idx {G G' : Gr} (h : G.Ext G') (v : Nat) : G'.idx v = G.idx v := by unfold Gr.idx; rw [h.order]
theorem Gr.Ext.lev {G G' : Gr} (h : G.Ext G') (k : G.Ok) (k' : G'.Ok) {r : Nat} (hr : G.ok r) : G'.lev r = G.lev r := by
  rcases hr with e | ⟨n, e⟩
  · rw [Gr.lev_const k e, Gr.lev_const k' e, h.order]
  · rw [Gr.lev_node e, Gr.lev_node (h.node e), h.idx]

theorem Gr.add_ext (G : Gr) {i : Nat} {n : Nd} (hi : i ≠ 0) (hn : G.node i = none) : G.Ext (G.add i n) := by
  refine ⟨rfl, ?_, ?_⟩
  · intro j m hm
    have : j ≠ i := by intro e; subst e; rw [hn] at hm; cases hm
    simp [Gr.add, this, hm]
  · intro j hj
    have : j ≠ i := by
      intro e
      subst e
      rcases hj with e | ⟨m, hm⟩
      · exact hi e
      · rw [hn] at hm; cases hm
    simp [Gr.add, this]

theorem Gr.add_node (G : Gr) (i : Nat) (n : Nd) : (G.add i n).node i = some n := by simp [Gr.add]

theorem Gr.Ok.add {G : Gr} (k : G.Ok) {i : Nat} {n : Nd} (hi : i ≠ 0) (hn : G.node i = none) (hv : n.v ∈ G.order) (ht : n.t % 2 = 0) (ot : G.ok n.t) (oe : G.ok n.e) (lt : G.idx n.v < G.lev n.t) (le : G.idx n.v < G.lev n.e) (hne : n.t ≠ n.e)
    (hnew : ∀ j, G.node j ≠ some n) : (G.add i n).Ok := by
  have hx := G.add_ext (n := n) hi hn
  have hcase : ∀ {j m}, (G.add i n).node j = some m → (j = i ∧ m = n) ∨ (j ≠ i ∧ G.node j = some m) := by
    intro j m h
    by_cases e : j = i
    · subst e; rw [Gr.add_node] at h; exact .inl ⟨rfl, (Option.some.inj h).symm⟩
    · simp [Gr.add, e] at h; exact .inr ⟨e, h⟩
  have hz : (G.add i n).node 0 = none := by
    have h0 : ¬ 0 = i := fun e => hi e.symm
    simp [Gr.add, h0, k.zero]
  have hlev : ∀ {r}, G.ok r → (G.add i n).lev r = G.lev r := by
    intro r hr
    rcases hr with e | ⟨m, e⟩
    · unfold Gr.lev; rw [e, hz, k.zero]; rfl
    · rw [Gr.lev_node e, Gr.lev_node (hx.node e)]; rfl
  refine ⟨k.nodup, k.lt6, hz, ?_, ?_, ?_, ?_, ?_, ?_, ?_, ?_, ?_, ?_⟩
  · rw [hx.sem (.inl rfl)]; exact k.sem0
  · intro j m h; rcases hcase h with ⟨_, rfl⟩ | ⟨_, h⟩; exact hv; exact k.var h
  · intro j m h; rcases hcase h with ⟨_, rfl⟩ | ⟨_, h⟩; exact ht; exact k.tev h
  · intro j m h; rcases hcase h with ⟨_, rfl⟩ | ⟨_, h⟩; exact hx.ok ot; exact hx.ok (k.tok h)
  · intro j m h; rcases hcase h with ⟨_, rfl⟩ | ⟨_, h⟩; exact hx.ok oe; exact hx.ok (k.eok h)
  · intro j m h
    rcases hcase h with ⟨_, rfl⟩ | ⟨_, h⟩
    · rw [hlev ot]; exact lt
    · rw [hlev (k.tok h)]; exact k.tlev h
  · intro j m h
    rcases hcase h with ⟨_, rfl⟩ | ⟨_, h⟩
    · rw [hlev oe]; exact le
    · rw [hlev (k.eok h)]; exact k.elev h
  · intro j m h; rcases hcase h with ⟨_, rfl⟩ | ⟨_, h⟩; exact hne; exact k.ne h
  · intro j m h
    rcases hcase h with ⟨rfl, rfl⟩ | ⟨e, h⟩
    · rw [hx.tab ot, hx.tab oe]; simp [Gr.add]
    · rw [hx.tab (k.tok h), hx.tab (k.eok h), hx.sem (.inr ⟨m, h⟩)]; exact k.is h
  · intro j j' m h h'
    rcases hcase h with ⟨e1, e2⟩ | ⟨e1, q⟩ <;> rcases hcase h' with ⟨e3, e4⟩ | ⟨e3, q'⟩
    · rw [e1, e3]
    · rw [e2] at q'; exact absurd q' (hnew _)
    · rw [e4] at q; exact absurd q (hnew _)
    · exact k.inj q q'

theorem Gr.Closed.ext {G G' : Gr} (h : G.Ext G') {S : Nat → Prop} (hS : G'.Closed S) : G.Closed S := fun i hi n hn => hS i hi n (h.node hn)

theorem Gr.Reach.ext {G G' : Gr} (h : G.Ext G') {R : Nat → Prop} {i : Nat} (hr : G.Reach R i) : G'.Reach R i :=
  ⟨h.has hr.1, fun S hS hR => hr.2 S (hS.ext h) hR⟩

theorem Gr.Reach.mono {G : Gr} {R R' : Nat → Prop} {i : Nat} (h : G.Reach R i) (hR : ∀ r, R r → R' r) : G.Reach R' i :=
  ⟨h.1, fun S hS hr => h.2 S hS (fun r hr' => hr r (hR r hr'))⟩

/-- What a reference reaches that is a child's. -/
theorem Gr.Reach.step {G : Gr} {s : Nat} {n : Nd} (hn : G.node (s / 2) = some n) {i c : Nat} (hc : c / 2 = n.t / 2 ∨ c / 2 = n.e / 2) (h : G.Reach (· = c) i) (h0 : G.node 0 = none) : G.Reach (· = s) i := by
  refine ⟨h.1, fun S hS hR => h.2 S hS ?_⟩
  intro r hr
  subst hr
  have hs : S (s / 2) := by
    rcases hR s rfl with e | e
    · rw [e, h0] at hn; cases hn
    · exact e
  obtain ⟨a, b⟩ := hS _ hs n hn
  rcases hc with e | e
  · rw [e]; exact a
  · rw [e]; exact b

theorem Gr.Reach.half {G : Gr} {s s' i : Nat} (e : s / 2 = s' / 2) (h : G.Reach (· = s) i) : G.Reach (· = s') i :=
  ⟨h.1, fun S hS hR => h.2 S hS (fun r hr => by subst hr; rw [e]; exact hR s' rfl)⟩

theorem Gr.Reach.self {G : Gr} {s : Nat} (h : G.has (s / 2)) (h0 : G.node 0 = none) : G.Reach (· = s) (s / 2) :=
  ⟨h, fun S hS hR => (hR s rfl).resolve_left (fun e => by obtain ⟨n, hn⟩ := h; rw [e, h0] at hn; cases hn)⟩

/-- From G a call came to G', and to r: no nodes are new but r's. -/
structure Gr.Made (G G' : Gr) (r : Nat) : Prop where
  ext : G.Ext G'
  good : G'.Ok
  ok : G'.ok r
  new : ∀ i, G'.has i → G.has i ∨ G'.Reach (· = r) i

theorem Gr.Made.refl {G : Gr} (k : G.Ok) {r : Nat} (h : G.ok r) : G.Made G r := ⟨Gr.Ext.refl G, k, h, fun i hi => .inl hi⟩

theorem iteT_not (f g h : Tab) : iteT f (~~~ g) (~~~ h) = ~~~ iteT f g h := by
  apply tab_ext
  intro a ha
  rw [iteT_bit _ _ _ _ ha, BitVec.getLsbD_not, BitVec.getLsbD_not, BitVec.getLsbD_not, iteT_bit _ _ _ _ ha]
  split <;> rfl

theorem iteT_same (f g : Tab) : iteT f g g = g := by
  apply tab_ext
  intro a ha
  rw [iteT_bit _ _ _ _ ha]; split <;> rfl

/-- The node that join looks for. -/
def joinN (v t e : Nat) : Nd := ⟨v, t - t % 2, tl e t⟩

theorem joinN_tab (G : Gr) (v t e : Nat) : (if t % 2 = 0 then iteT (mask v) (G.tab (t - t % 2)) (G.tab (tl e t)) else ~~~ iteT (mask v) (G.tab (t - t % 2)) (G.tab (tl e t))) = iteT (mask v) (G.tab t) (G.tab e) := by
  rw [G.tab_tl]
  rcases Nat.mod_two_eq_zero_or_one t with h | h
  · rw [if_pos h, if_pos h, h]; rfl
  · have e1 : (1 : Nat) ≠ 0 := by decide
    have e2 : (t - 1) % 2 = 0 := by omega
    have e3 : (t - 1) / 2 = t / 2 := by omega
    have e4 : G.tab t = ~~~ G.sem (t / 2) := by unfold Gr.tab; rw [if_neg (by omega)]
    have e5 : G.tab (t - 1) = G.sem (t / 2) := by unfold Gr.tab; rw [if_pos e2, e3]
    rw [h, if_neg e1, if_neg e1, ← iteT_not, e5, e4, not_not_tab]

/-- Both parts are alike. -/
theorem Gr.Made.join_same {G G1 G2 : Gr} {t : Nat} (h1 : G.Made G1 t) (h2 : G1.Made G2 t) : G.Made G2 t :=
  ⟨h1.ext.trans h2.ext, h2.good, h2.ok, fun i hi => by
    rcases h2.new i hi with h | h
    · rcases h1.new i h with h | h
      · exact .inl h
      · exact .inr (h.ext h2.ext)
    · exact .inr h⟩

theorem joinN_ne {v t e : Nat} (h : t ≠ e) : (joinN v t e).t ≠ (joinN v t e).e := by
  unfold joinN tl
  simp only
  split
  · omega
  · split <;> omega

theorem joinN_lev {G : Gr} {v t e : Nat} (ht : G.idx v < G.lev t) (he : G.idx v < G.lev e) : G.idx (joinN v t e).v < G.lev (joinN v t e).t ∧ G.idx (joinN v t e).v < G.lev (joinN v t e).e := by
  refine ⟨?_, by show G.idx v < G.lev (tl e t); rw [Gr.lev_tl]; exact he⟩
  show G.idx v < G.lev (t - t % 2)
  have : (t - t % 2) / 2 = t / 2 := by omega
  unfold Gr.lev at ht ⊢
  rw [this]
  exact ht

theorem joinN_ok {G : Gr} {v t e : Nat} (ht : G.ok t) (he : G.ok e) : G.ok (joinN v t e).t ∧ G.ok (joinN v t e).e := by
  refine ⟨?_, by show G.ok (tl e t); rw [Gr.ok_tl]; exact he⟩
  show G.ok (t - t % 2)
  have : (t - t % 2) / 2 = t / 2 := by omega
  unfold Gr.ok at ht ⊢
  rw [this]
  exact ht

/-- The node is there. -/
theorem Gr.Made.join_found {G G1 G2 : Gr} {v t e i : Nat} (h1 : G.Made G1 t) (h2 : G1.Made G2 e) (hi : G2.node i = some (joinN v t e)) :
    G.Made G2 (tl (2 * i) t) ∧ G2.tab (tl (2 * i) t) = iteT (mask v) (G2.tab t) (G2.tab e) := by
  have hk := h2.good
  have hh : tl (2 * i) t / 2 = i := by rw [tl_half]; omega
  have hi' : G2.node (tl (2 * i) t / 2) = some (joinN v t e) := by rw [hh]; exact hi
  refine ⟨⟨h1.ext.trans h2.ext, hk, .inr ⟨_, hi'⟩, ?_⟩, ?_⟩
  · intro j hj
    rcases h2.new j hj with h | h
    · rcases h1.new j h with h | h
      · exact .inl h
      · right
        refine Gr.Reach.step hi' (c := t) (.inl ?_) (h.ext h2.ext) hk.zero
        show t / 2 = (t - t % 2) / 2
        omega
    · right
      refine Gr.Reach.step hi' (c := e) (.inr ?_) h hk.zero
      show e / 2 = tl e t / 2
      rw [tl_half]
  · rw [Gr.tab_tl]
    have e1 : G2.tab (2 * i) = G2.sem i := by unfold Gr.tab; rw [if_pos (by omega)]; congr 1; omega
    rw [e1, hk.is hi]
    exact joinN_tab G2 v t e

/-- The node is new. -/
theorem Gr.Made.join_new {G G1 G2 : Gr} {v t e i : Nat} (h1 : G.Made G1 t) (h2 : G1.Made G2 e) (hne : t ≠ e) (hv : v ∈ G2.order) (lt : G2.idx v < G2.lev t) (le : G2.idx v < G2.lev e) (hi0 : i ≠ 0) (hi : G2.node i = none) (hnew : ∀ j, G2.node j ≠ some (joinN v t e)) :
    G.Made (G2.add i (joinN v t e)) (tl (2 * i) t) ∧ (G2.add i (joinN v t e)).tab (tl (2 * i) t) = iteT (mask v) (G2.tab t) (G2.tab e) ∧ (G2.add i (joinN v t e)).Ok ∧ G2.Ext (G2.add i (joinN v t e)) := by
  have hk := h2.good
  have hx := G2.add_ext (n := joinN v t e) hi0 hi
  have ok3 : (G2.add i (joinN v t e)).Ok := hk.add hi0 hi hv (by show (t - t % 2) % 2 = 0; omega) (joinN_ok (h2.ext.ok h1.ok) h2.ok).1 (joinN_ok (h2.ext.ok h1.ok) h2.ok).2 (joinN_lev lt le).1 (joinN_lev lt le).2 (joinN_ne hne) hnew
  have h2' : G1.Made (G2.add i (joinN v t e)) e → True := fun _ => trivial
  have hn3 : (G2.add i (joinN v t e)).node i = some (joinN v t e) := Gr.add_node _ _ _
  have hh : tl (2 * i) t / 2 = i := by rw [tl_half]; omega
  have hi' : (G2.add i (joinN v t e)).node (tl (2 * i) t / 2) = some (joinN v t e) := by rw [hh]; exact hn3
  refine ⟨⟨(h1.ext.trans h2.ext).trans hx, ok3, .inr ⟨_, hi'⟩, ?_⟩, ?_, ok3, hx⟩
  · intro j hj
    by_cases ej : j = i
    · right
      have := Gr.Reach.self (G := G2.add i (joinN v t e)) (s := tl (2 * i) t) ⟨_, hi'⟩ ok3.zero
      rw [hh] at this
      rw [ej]
      exact this
    · have hj2 : G2.has j := by
        obtain ⟨m, hm⟩ := hj
        simp [Gr.add, ej] at hm
        exact ⟨m, hm⟩
      rcases h2.new j hj2 with h | h
      · rcases h1.new j h with h | h
        · exact .inl h
        · right
          refine Gr.Reach.step hi' (c := t) (.inl ?_) (h.ext (h2.ext.trans hx)) ok3.zero
          show t / 2 = (t - t % 2) / 2
          omega
      · right
        refine Gr.Reach.step hi' (c := e) (.inr ?_) (h.ext hx) ok3.zero
        show e / 2 = tl e t / 2
        rw [tl_half]
  · rw [Gr.tab_tl]
    have e1 : (G2.add i (joinN v t e)).tab (2 * i) = (G2.add i (joinN v t e)).sem i := by unfold Gr.tab; rw [if_pos (by omega)]; congr 1; omega
    rw [e1, ok3.is hn3, ← hx.tab (h2.ext.ok h1.ok), ← hx.tab h2.ok]
    exact joinN_tab _ v t e

/-- Where it hangs on none of the first variables, its level is behind them. -/
theorem Gr.Ok.lev_gt {G : Gr} (k : G.Ok) {r l : Nat} (hr : G.ok r) (hl : l < G.order.length) (h : ∀ v ∈ G.order, G.idx v ≤ l → hangs (G.tab r) v = false) : l < G.lev r := by
  rcases hr with e | ⟨n, e⟩
  · rw [Gr.lev_const k e]; exact hl
  · rw [Gr.lev_node e]
    apply Nat.lt_of_not_le
    intro hle
    have := h n.v (k.var e) hle
    rw [Gr.hangs_tab _ _ (k.v6 e), k.hangs_top e] at this
    cases this

/-- What f is when the variable of a level has a value. -/
def Gr.br (G : Gr) (r l : Nat) (b : Bool) : Nat :=
  match G.node (r / 2) with
  | some n => if G.idx n.v = l then tl (if b then n.t else n.e) r else r
  | none => r

theorem Gr.Ok.br_ok {G : Gr} (k : G.Ok) {r l : Nat} {b : Bool} (h : G.ok r) : G.ok (G.br r l b) := by
  unfold Gr.br
  split
  · rename_i n hn
    split
    · rw [Gr.ok_tl]; cases b; exact k.eok hn; exact k.tok hn
    · exact h
  · exact h

theorem Gr.Ok.br_lev {G : Gr} (k : G.Ok) {r l : Nat} {b : Bool} (h : G.ok r) (hl : l ≤ G.lev r) (hl' : l < G.order.length) : l < G.lev (G.br r l b) := by
  unfold Gr.br
  split
  · rename_i n hn
    split
    · rename_i e
      rw [Gr.lev_tl, ← e]
      cases b
      · exact k.elev hn
      · exact k.tlev hn
    · rename_i e
      rw [Gr.lev_node hn] at hl ⊢
      omega
  · rename_i hn
    have : r / 2 = 0 := by
      rcases h with e | ⟨n, e⟩
      · exact e
      · rw [hn] at e; cases e
    rw [Gr.lev_const k this]
    exact hl'

theorem Gr.Ok.br_tab {G : Gr} (k : G.Ok) {r l v : Nat} {b : Bool} (h : G.ok r) (hv : v ∈ G.order) (hl : G.idx v = l) (hle : l ≤ G.lev r) : G.tab (G.br r l b) = given (G.tab r) v b := by
  have hv6 := k.lt6 v hv
  by_cases hlt : l < G.lev r
  · rw [given_of_not_hangs _ _ _ hv6 (k.ahead h hv6 (.inl (by omega)))]
    unfold Gr.br
    split
    · rename_i n hn
      rw [Gr.lev_node hn] at hlt
      rw [if_neg (by omega)]
    · rfl
  · have hlen : l < G.order.length := by rw [← hl]; exact List.idxOf_lt_length_of_mem hv
    obtain ⟨n, hn⟩ := Gr.lev_ne k h (by omega)
    have hle2 := Gr.lev_node hn
    have hnv : n.v = v := idxOf_inj (k.var hn) (by show G.idx n.v = G.idx v; omega)
    unfold Gr.br
    rw [hn]
    simp only
    rw [if_pos (by omega), G.tab_tl, ← hnv]
    have hg := k.given_node hn b
    have hsel : G.tab (if b then n.t else n.e) = if b then G.tab n.t else G.tab n.e := by cases b <;> rfl
    unfold Gr.tab at hg hsel ⊢
    split
    · rw [hsel, hg]
    · rw [given_not _ _ _ (k.v6 hn), hg]
      rw [hsel]

end Go.Proofs.YtebfmcafmojlaaaGreatDoor

/-
  graph.Graph in memory.
-/
namespace Go.Proofs.YtebfmcafmojlaaaGreatDoor
open Go.RowKit Go.Maps
set_option linter.unusedSimpArgs false
set_option linter.unusedVariables false

/-- A graph as the program keeps it: the nodes by number (none: no node), the numbers that are free, and (beside it) what each node tells. -/
structure GrS where
  order : List Nat
  nl : List (Option Nd)
  free : List Nat
  sem : Nat → Tab
  ov : Value

def GrS.g (S : GrS) : Gr := ⟨S.order, fun i => S.nl.getD i none, S.sem⟩

def ndKey (n : Nd) : Value := key3 n.v n.t n.e
def ndCells : Option Nd → List Value
  | none => [.int .i64 (0 : Nat), .int .i64 (0 : Nat), .int .i64 (0 : Nat)]
  | some n => [.int .i64 (n.v : Nat), .int .i64 (n.t : Nat), .int .i64 (n.e : Nat)]
theorem ndCells_len (o : Option Nd) : (ndCells o).length = 3 := by cases o <;> rfl

theorem flat3_len (l : List (Option Nd)) : (l.flatMap ndCells).length = l.length * 3 := by
  induction l with
  | nil => rfl
  | cons a l ih => rw [List.flatMap_cons, List.length_append, ih, ndCells_len, List.length_cons]; omega

theorem flat3_get (l : List (Option Nd)) (i j : Nat) (hi : i < l.length) (hj : j < 3) : (l.flatMap ndCells)[i * 3 + j]? = (ndCells (l.getD i none))[j]? := by
  induction l generalizing i with
  | nil => simp at hi
  | cons a l ih =>
    rw [List.flatMap_cons]
    cases i with
    | zero =>
      rw [List.getElem?_append_left (by rw [ndCells_len]; omega)]
      simp
    | succ i =>
      rw [List.getElem?_append_right (by rw [ndCells_len]; omega), ndCells_len]
      have : (i + 1) * 3 + j - 3 = i * 3 + j := by omega
      rw [this, ih i (by simpa using hi)]
      simp

theorem flat3_snoc (l : List (Option Nd)) (o : Option Nd) : (l ++ [o]).flatMap ndCells = l.flatMap ndCells ++ ndCells o := by simp

/-- Graph S lies at block gb, all of it in O. ov, nv, fv: its slices; mb, rb: its maps; M, R: their entries. -/
structure GrAt (O : Nat → Prop) (w : World) (gb : Nat) (S : GrS) (ov nv fv : Value) (mb rb : Nat) (M R : List (Value × Value)) : Prop where
  lt : ∀ b, O b → b < w.heap.size
  eov : S.ov = ov
  self : O gb
  om : O mb
  orr : O rb
  cells : w.heap[gb]? = some (.cells #[ov, nv, .map (some mb), fv, .map (some rb)] 156 (0, 0))
  order : Row O w 3 ov (S.order.map natv)
  nodes : w.ownsRow 0 214 3 nv S.nl.length (S.nl.flatMap ndCells)
  nin : InO O nv
  free : Row O w 3 fv (S.free.map natv)
  nums : MapIs Tryz.prog 214 w mb M
  res : MapIs Tryz.prog 163 w rb R
  mok : ∀ p, p ∈ M ↔ ∃ i n, S.g.node i = some n ∧ p = (ndKey n, natv i)
  rok : ∀ p, p ∈ R → ∃ f g h r, p = (key3 f g h, natv r) ∧ S.g.ok f ∧ S.g.ok g ∧ S.g.ok h ∧ S.g.ok r ∧ S.g.tab r = iteT (S.g.tab f) (S.g.tab g) (S.g.tab h)
  rlen : R.length ≤ 4096
  mr : mb ≠ rb
  of : ov.ownBlock = none ∨ ov.ownBlock ≠ fv.ownBlock
  n1 : 1 ≤ S.nl.length
  nlen : S.nl.length ≤ 100000
  ol : S.order.length ≤ 6
  fdup : S.free.Nodup
  fok : ∀ i, i ∈ S.free → 0 < i ∧ i < S.nl.length ∧ S.g.node i = none

/-- All numbers without a node are free. -/
def GrS.Full (S : GrS) : Prop := ∀ i, 0 < i → i < S.nl.length → S.g.node i = none → i ∈ S.free

def GrIs (O : Nat → Prop) (w : World) (gb : Nat) (S : GrS) : Prop := ∃ ov nv fv mb rb M R, GrAt O w gb S ov nv fv mb rb M R
def GrStep (O : Nat → Prop) (w : World) (gb : Nat) (w' : World) (S' : GrS) : Prop := Only O w w' ∧ ∃ O', GrIs O' w' gb S' ∧ Grows w O O'

theorem GrAt.keep {O : Nat → Prop} {w w' : World} {gb : Nat} {S : GrS} {ov nv fv : Value} {mb rb : Nat} {M R : List (Value × Value)} (h : GrAt O w gb S ov nv fv mb rb M R) (hs : w.heap.size ≤ w'.heap.size) (hb : ∀ k, O k → w'.heap[k]? = w.heap[k]?) : GrAt O w' gb S ov nv fv mb rb M R :=
  { h with
    lt := fun b hb => Nat.lt_of_lt_of_le (h.lt b hb) hs
    cells := (hb gb h.self).trans h.cells
    order := h.order.same (fun k hk => hb k (h.order.2 k hk))
    nodes := owns_same h.nodes (fun k hk => hb k (h.nin k hk))
    free := h.free.same (fun k hk => hb k (h.free.2 k hk))
    nums := h.nums.same (hb mb h.om)
    res := h.res.same (hb rb h.orr) }

theorem GrAt.below {O : Nat → Prop} {w w' : World} {gb : Nat} {S : GrS} {ov nv fv : Value} {mb rb : Nat} {M R : List (Value × Value)} (h : GrAt O w gb S ov nv fv mb rb M R) (hb : Below w.heap.size w w') : GrAt O w' gb S ov nv fv mb rb M R :=
  h.keep hb.size (fun k hk => hb.block k (h.lt k hk))

theorem GrIs.lt {O : Nat → Prop} {w : World} {gb : Nat} {S : GrS} (h : GrIs O w gb S) : ∀ b, O b → b < w.heap.size := by
  obtain ⟨ov, nv, fv, mb, rb, M, R, h⟩ := h
  exact h.lt
theorem GrIs.keep {O : Nat → Prop} {w w' : World} {gb : Nat} {S : GrS} (h : GrIs O w gb S) (hs : w.heap.size ≤ w'.heap.size) (hb : ∀ k, O k → w'.heap[k]? = w.heap[k]?) : GrIs O w' gb S := by
  obtain ⟨ov, nv, fv, mb, rb, M, R, h⟩ := h
  exact ⟨ov, nv, fv, mb, rb, M, R, h.keep hs hb⟩
theorem GrIs.below {O : Nat → Prop} {w w' : World} {gb : Nat} {S : GrS} (h : GrIs O w gb S) (hb : Below w.heap.size w w') : GrIs O w' gb S :=
  h.keep hb.size (fun k hk => hb.block k (h.lt k hk))
theorem GrIs.step {O : Nat → Prop} {w w' : World} {gb : Nat} {S : GrS} (h : GrIs O w gb S) (hb : Below w.heap.size w w') : GrStep O w gb w' S := ⟨only_of_below hb O, O, h.below hb, Grows.refl _ _⟩
theorem GrStep.pre {O : Nat → Prop} {w w1 w' : World} {gb : Nat} {S' : GrS} (hb : Below w.heap.size w w1) (h : GrStep O w1 gb w' S') : GrStep O w gb w' S' := by
  obtain ⟨ho, O', hi, hg⟩ := h
  exact ⟨below_then_only hb ho, O', hi, fun b hb' => (hg b hb').imp id (fun e => Nat.le_trans hb.size e)⟩
theorem GrStep.post {O : Nat → Prop} {w w1 w' : World} {gb : Nat} {S' : GrS} (h : GrStep O w gb w1 S') (hb : Below w1.heap.size w1 w') : GrStep O w gb w' S' := by
  obtain ⟨ho, O', hi, hg⟩ := h
  exact ⟨ho.then_below hb, O', hi.below hb, hg⟩
theorem GrStep.trans {O O' : Nat → Prop} {w w1 w' : World} {gb : Nat} {S' : GrS} (ho : Only O w w1) (hg : Grows w O O') (h : GrStep O' w1 gb w' S') : GrStep O w gb w' S' := by
  obtain ⟨ho2, O2, hi, hg2⟩ := h
  exact ⟨ho.trans ho2 hg, O2, hi, hg.trans hg2 ho.size⟩

/-- What the graph's own cells hold. -/
theorem GrAt.c {O : Nat → Prop} {w : World} {gb : Nat} {S : GrS} {ov nv fv : Value} {mb rb : Nat} {M R : List (Value × Value)} (h : GrAt O w gb S ov nv fv mb rb M R) :
    w.cell? ⟨gb, 0, none⟩ = some ov ∧ w.cell? ⟨gb, 1, none⟩ = some nv ∧ w.cell? ⟨gb, 2, none⟩ = some (.map (some mb)) ∧ w.cell? ⟨gb, 3, none⟩ = some fv ∧ w.cell? ⟨gb, 4, none⟩ = some (.map (some rb)) := by
  refine ⟨?_, ?_, ?_, ?_, ?_⟩ <;> (rw [cell_of_heap h.cells]; rfl)

theorem GrS.node_lt {S : GrS} {i : Nat} {n : Nd} (h : S.g.node i = some n) : i < S.nl.length := by
  apply Nat.lt_of_not_le
  intro hle
  have : S.nl.getD i none = none := by rw [List.getD_eq_getElem?_getD, List.getElem?_eq_none hle]; rfl
  have h' : S.nl.getD i none = some n := h
  rw [this] at h'
  cases h'

/-- The nodes' slice, and its cells. -/
theorem GrAt.nodesAt {O : Nat → Prop} {w : World} {gb : Nat} {S : GrS} {ov nv fv : Value} {mb rb : Nat} {M R : List (Value × Value)} (h : GrAt O w gb S ov nv fv mb rb M R) :
    ∃ nb cap, nv = .slice (some ⟨nb, 0, none⟩) S.nl.length cap ∧ nb < w.heap.size ∧ O nb ∧ ∀ i, i < S.nl.length → ∀ j, j < 3 → w.cell? ⟨nb, i * 3 + j, none⟩ = (ndCells (S.nl.getD i none))[j]? := by
  have hn := h.nodes
  have h1 := h.n1
  rcases hn.2 with ⟨rfl, h0⟩ | ⟨g, cap, cur, rfl, hb, hg, hnc, hcm, hcs, htake⟩
  · omega
  · refine ⟨g, cap, rfl, (Array.getElem?_eq_some_iff.1 hg).1, h.nin g rfl, ?_⟩
    intro i hi j hj
    have hx := flat3_get S.nl i j hi hj
    have hl := flat3_len S.nl
    obtain ⟨x, hxx⟩ : ∃ x, (S.nl.flatMap ndCells)[i * 3 + j]? = some x := ⟨_, List.getElem?_eq_getElem (by rw [hl]; omega)⟩
    have := hn.cells (g := g) rfl (i * 3 + j) x hxx
    have hadd : (⟨g, 0, none⟩ : Addr).add (i * 3 + j) = ⟨g, 0 + (i * 3 + j), none⟩ := by unfold Addr.add; split <;> simp_all
    rw [hadd, Nat.zero_add] at this
    rw [this, ← hx, hxx]

theorem GrAt.nodeAt {O : Nat → Prop} {w : World} {gb : Nat} {S : GrS} {ov nv fv : Value} {mb rb : Nat} {M R : List (Value × Value)} (h : GrAt O w gb S ov nv fv mb rb M R) :
    ∃ nb cap, nv = .slice (some ⟨nb, 0, none⟩) S.nl.length cap ∧ nb < w.heap.size ∧ O nb ∧ ∀ i n, S.g.node i = some n → i < S.nl.length ∧ w.cell? ⟨nb, i * 3, none⟩ = some (.int .i64 (n.v : Nat)) ∧ w.cell? ⟨nb, i * 3 + 1, none⟩ = some (.int .i64 (n.t : Nat)) ∧ w.cell? ⟨nb, i * 3 + 2, none⟩ = some (.int .i64 (n.e : Nat)) := by
  obtain ⟨nb, cap, e, hlt, ho, hc⟩ := h.nodesAt
  refine ⟨nb, cap, e, hlt, ho, ?_⟩
  intro i n hn
  have hi := GrS.node_lt hn
  have hn' : S.nl.getD i none = some n := hn
  have c0 := hc i hi 0 (by omega)
  have c1 := hc i hi 1 (by omega)
  have c2 := hc i hi 2 (by omega)
  rw [hn'] at c0 c1 c2
  exact ⟨hi, c0, c1, c2⟩

/-- References are small. -/
theorem GrAt.small {O : Nat → Prop} {w : World} {gb : Nat} {S : GrS} {ov nv fv : Value} {mb rb : Nat} {M R : List (Value × Value)} (h : GrAt O w gb S ov nv fv mb rb M R) {r : Nat} (hr : S.g.ok r) : r < 400000 := by
  have hl := h.nlen
  rcases hr with e | ⟨n, e⟩
  · omega
  · have := GrS.node_lt e
    omega

end Go.Proofs.YtebfmcafmojlaaaGreatDoor

