/-
  The key types of the graph's tables.
-/
import Derived.DeepKeys4
import Derived.Test.YtebfmcafmojlaaaT08
import Derived.Test.YtebfmcafmojlaaaT05
import Derived.Test.YtebfmcafmojlaaaT06
import Derived.Test.YtebfmcafmojlaaaT04
namespace Go.Proofs.Ytebfmcafmojlaaa
open Go.RowKit Go.Maps
set_option linter.unusedSimpArgs false
set_option linter.unusedVariables false

theorem Try.laidOutIs : laidOutB Try.prog = true := by kernel_rfl
theorem Try.nodeRow' : decide (97 < Try.prog.types.size) = true := by kernel_rfl
theorem Try.nodeRow : 97 < Try.prog.types.size := of_decide_eq_true Try.nodeRow'
theorem Try.tripRow' : decide (102 < Try.prog.types.size) = true := by kernel_rfl
theorem Try.tripRow : 102 < Try.prog.types.size := of_decide_eq_true Try.tripRow'
theorem Try.nodeKey : Try.prog.keyTypeAt 3 97 = true := by kernel_rfl
theorem Try.nodeKey' : Try.prog.keyType 97 = true := by kernel_rfl
theorem Try.tripKey : Try.prog.keyTypeAt 3 102 = true := by kernel_rfl
theorem Try.tripKey' : Try.prog.keyType 102 = true := by kernel_rfl
theorem Try.nodeCells : Try.prog.cellsOf 97 = 3 := by kernel_rfl
theorem Try.tripCells : Try.prog.cellsOf 102 = 3 := by kernel_rfl
theorem Try.intCells : Try.prog.cellsOf 3 = 1 := by kernel_rfl
theorem Try.refCells : Try.prog.cellsOf 72 = 1 := by kernel_rfl

theorem node_keyed : Keyed Try.prog 97 := Keyed.of_law (deep_law_laid Try.laidOutIs (m := 3) (by omega) Try.nodeRow Try.nodeKey (by rw [Try.underlying97]))
theorem trip_keyed : Keyed Try.prog 102 := Keyed.of_law (deep_law_laid Try.laidOutIs (m := 3) (by omega) Try.tripRow Try.tripKey (by rw [Try.underlying102]))
theorem ref_keyed : Keyed Try.prog 72 := int_keyed Try.underlying72

def key3 (a b c : Nat) : Value := .agg #[.int .i64 (a : Int), .int .i64 (b : Int), .int .i64 (c : Int)]

theorem wf_i64_nat (n : Nat) (h : n < refMax) : (Lit.int .i64 (n : Int)).wf = true := by
  unfold refMax at h
  exact WalkArith.wf_i64 (by omega)

theorem keyLits_int {P : Program} {d t : Nat} {q : IntKind} {n : Int} (h : P.underlying t = some (.int q)) (hw : (Lit.int q n).wf = true) : P.keyLits (d + 1) t [.int q n] = some [.int q n] := by
  simp [Program.keyLits, h, hw]

theorem types_succ : ∃ m, Try.prog.types.size = m + 1 := ⟨Try.prog.types.size - 1, by have := Try.nodeRow; omega⟩

theorem node_key_ok (a b c : Nat) (ha : a < refMax) (hb : b < refMax) (hc : c < refMax) : KeyOk Try.prog 97 (key3 a b c) := by
  obtain ⟨m, hm⟩ := types_succ
  have h1 := keyLits_int (d := m) Try.underlying3 (wf_i64_nat a ha)
  have h2 := keyLits_int (d := m) Try.underlying72 (wf_i64_nat b hb)
  have h3 := keyLits_int (d := m) Try.underlying72 (wf_i64_nat c hc)
  unfold KeyOk keyOf key3
  rw [Try.underlying97]
  simp only
  rw [Try.nodeKey']
  have hf : Value.formed Try.prog 97 (.agg #[.int .i64 (a : Int), .int .i64 (b : Int), .int .i64 (c : Int)]) = true := by
    unfold Value.formed
    rw [Try.underlying97, Try.nodeCells]
    rfl
  rw [hf]
  have hk : ∃ ls, Try.prog.keyLits (Try.prog.types.size + 1) 97 (Value.agg #[.int .i64 (a : Int), .int .i64 (b : Int), .int .i64 (c : Int)]).cells.toList = some ls := by
    rw [hm]
    unfold Program.keyLits
    rw [Try.underlying97]
    simp [Value.cells, Try.nodeCells, Try.intCells, Try.refCells, h1, h2, h3]
  obtain ⟨ls, hls⟩ := hk
  rw [hls]
  simp

theorem trip_key_ok (a b c : Nat) (ha : a < refMax) (hb : b < refMax) (hc : c < refMax) : KeyOk Try.prog 102 (key3 a b c) := by
  obtain ⟨m, hm⟩ := types_succ
  have h1 := keyLits_int (d := m) Try.underlying72 (wf_i64_nat a ha)
  have h2 := keyLits_int (d := m) Try.underlying72 (wf_i64_nat b hb)
  have h3 := keyLits_int (d := m) Try.underlying72 (wf_i64_nat c hc)
  unfold KeyOk keyOf key3
  rw [Try.underlying102]
  simp only
  rw [Try.tripKey']
  have hf : Value.formed Try.prog 102 (.agg #[.int .i64 (a : Int), .int .i64 (b : Int), .int .i64 (c : Int)]) = true := by
    unfold Value.formed
    rw [Try.underlying102, Try.tripCells]
    rfl
  rw [hf]
  have hk : ∃ ls, Try.prog.keyLits (Try.prog.types.size + 1) 102 (Value.agg #[.int .i64 (a : Int), .int .i64 (b : Int), .int .i64 (c : Int)]).cells.toList = some ls := by
    rw [hm]
    unfold Program.keyLits
    rw [Try.underlying102]
    simp [Value.cells, Try.tripCells, Try.refCells, h1, h2, h3, List.range_succ]
  obtain ⟨ls, hls⟩ := hk
  rw [hls]
  simp

theorem ref_key_ok (n : Int) (h : (Lit.int .i64 n).wf = true) : KeyOk Try.prog 72 (.int .i64 n) := ⟨_, keyOf_int_mk Try.underlying72 h⟩

theorem key3_inj {a b c a' b' c' : Nat} (h : key3 a b c = key3 a' b' c') : a = a' ∧ b = b' ∧ c = c' := by
  unfold key3 at h
  simp at h
  omega

end Go.Proofs.Ytebfmcafmojlaaa

/-
  graph.Graph in memory.
-/
namespace Go.Proofs.Ytebfmcafmojlaaa
open Go.RowKit Go.Maps
set_option linter.unusedSimpArgs false
set_option linter.unusedVariables false

/-- A graph as the program keeps it: the nodes by number (none: no node), the numbers that are free, and (beside it) what each node tells. -/
structure GrS where
  order : List Nat
  nl : List (Option Nd)
  free : List Nat
  sem : Nat → Tab
  ov : Value

def GrS.g (S : GrS) : Gr := ⟨S.order, fun i => S.nl.getD i none, S.sem⟩

def ndKey (n : Nd) : Value := key3 n.v n.t n.e
def ndCells : Option Nd → List Value
  | none => [.int .i64 (0 : Nat), .int .i64 (0 : Nat), .int .i64 (0 : Nat)]
  | some n => [.int .i64 (n.v : Nat), .int .i64 (n.t : Nat), .int .i64 (n.e : Nat)]
theorem ndCells_len (o : Option Nd) : (ndCells o).length = 3 := by cases o <;> rfl

theorem flat3_len (l : List (Option Nd)) : (l.flatMap ndCells).length = l.length * 3 := by
  induction l with
  | nil => rfl
  | cons a l ih => rw [List.flatMap_cons, List.length_append, ih, ndCells_len, List.length_cons]; omega

theorem flat3_get (l : List (Option Nd)) (i j : Nat) (hi : i < l.length) (hj : j < 3) : (l.flatMap ndCells)[i * 3 + j]? = (ndCells (l.getD i none))[j]? := by
  induction l generalizing i with
  | nil => simp at hi
  | cons a l ih =>
    rw [List.flatMap_cons]
    cases i with
    | zero =>
      rw [List.getElem?_append_left (by rw [ndCells_len]; omega)]
      simp
    | succ i =>
      rw [List.getElem?_append_right (by rw [ndCells_len]; omega), ndCells_len]
      have : (i + 1) * 3 + j - 3 = i * 3 + j := by omega
      rw [this, ih i (by simpa using hi)]
      simp

theorem flat3_snoc (l : List (Option Nd)) (o : Option Nd) : (l ++ [o]).flatMap ndCells = l.flatMap ndCells ++ ndCells o := by simp

/-- Graph S lies at block gb, all of it in O. ov, nv, fv: its slices; mb, rb: its maps; M, R: their entries. -/
structure GrAt (O : Nat → Prop) (w : World) (gb : Nat) (S : GrS) (ov nv fv : Value) (mb rb : Nat) (M R : List (Value × Value)) : Prop where
  lt : ∀ b, O b → b < w.heap.size
  eov : S.ov = ov
  self : O gb
  om : O mb
  orr : O rb
  cells : w.heap[gb]? = some (.cells #[ov, nv, .map (some mb), fv, .map (some rb)] 90 (0, 0))
  order : Row O w 3 ov (S.order.map natv)
  nodes : w.ownsRow 0 97 3 nv S.nl.length (S.nl.flatMap ndCells)
  nin : InO O nv
  free : Row O w 3 fv (S.free.map natv)
  nums : MapIs Try.prog 97 w mb M
  res : MapIs Try.prog 102 w rb R
  mok : ∀ p, p ∈ M ↔ ∃ i n, S.g.node i = some n ∧ p = (ndKey n, natv i)
  rok : ∀ p, p ∈ R → ∃ f g h r, p = (key3 f g h, natv r) ∧ S.g.ok f ∧ S.g.ok g ∧ S.g.ok h ∧ S.g.ok r ∧ S.g.tab r = iteT (S.g.tab f) (S.g.tab g) (S.g.tab h)
  rlen : R.length ≤ 4096
  mr : mb ≠ rb
  of : ov.ownBlock = none ∨ ov.ownBlock ≠ fv.ownBlock
  n1 : 1 ≤ S.nl.length
  nlen : S.nl.length ≤ 100000
  ol : S.order.length ≤ 6
  fdup : S.free.Nodup
  fok : ∀ i, i ∈ S.free → 0 < i ∧ i < S.nl.length ∧ S.g.node i = none

/-- All numbers without a node are free. -/
def GrS.Full (S : GrS) : Prop := ∀ i, 0 < i → i < S.nl.length → S.g.node i = none → i ∈ S.free

def GrIs (O : Nat → Prop) (w : World) (gb : Nat) (S : GrS) : Prop := ∃ ov nv fv mb rb M R, GrAt O w gb S ov nv fv mb rb M R
def GrStep (O : Nat → Prop) (w : World) (gb : Nat) (w' : World) (S' : GrS) : Prop := Only O w w' ∧ ∃ O', GrIs O' w' gb S' ∧ Grows w O O'

theorem GrAt.keep {O : Nat → Prop} {w w' : World} {gb : Nat} {S : GrS} {ov nv fv : Value} {mb rb : Nat} {M R : List (Value × Value)} (h : GrAt O w gb S ov nv fv mb rb M R) (hs : w.heap.size ≤ w'.heap.size) (hb : ∀ k, O k → w'.heap[k]? = w.heap[k]?) : GrAt O w' gb S ov nv fv mb rb M R :=
  { h with
    lt := fun b hb => Nat.lt_of_lt_of_le (h.lt b hb) hs
    cells := (hb gb h.self).trans h.cells
    order := h.order.same (fun k hk => hb k (h.order.2 k hk))
    nodes := owns_same h.nodes (fun k hk => hb k (h.nin k hk))
    free := h.free.same (fun k hk => hb k (h.free.2 k hk))
    nums := h.nums.same (hb mb h.om)
    res := h.res.same (hb rb h.orr) }

theorem GrAt.below {O : Nat → Prop} {w w' : World} {gb : Nat} {S : GrS} {ov nv fv : Value} {mb rb : Nat} {M R : List (Value × Value)} (h : GrAt O w gb S ov nv fv mb rb M R) (hb : Below w.heap.size w w') : GrAt O w' gb S ov nv fv mb rb M R :=
  h.keep hb.size (fun k hk => hb.block k (h.lt k hk))

theorem GrIs.lt {O : Nat → Prop} {w : World} {gb : Nat} {S : GrS} (h : GrIs O w gb S) : ∀ b, O b → b < w.heap.size := by
  obtain ⟨ov, nv, fv, mb, rb, M, R, h⟩ := h
  exact h.lt
theorem GrIs.keep {O : Nat → Prop} {w w' : World} {gb : Nat} {S : GrS} (h : GrIs O w gb S) (hs : w.heap.size ≤ w'.heap.size) (hb : ∀ k, O k → w'.heap[k]? = w.heap[k]?) : GrIs O w' gb S := by
  obtain ⟨ov, nv, fv, mb, rb, M, R, h⟩ := h
  exact ⟨ov, nv, fv, mb, rb, M, R, h.keep hs hb⟩
theorem GrIs.below {O : Nat → Prop} {w w' : World} {gb : Nat} {S : GrS} (h : GrIs O w gb S) (hb : Below w.heap.size w w') : GrIs O w' gb S :=
  h.keep hb.size (fun k hk => hb.block k (h.lt k hk))
theorem GrIs.step {O : Nat → Prop} {w w' : World} {gb : Nat} {S : GrS} (h : GrIs O w gb S) (hb : Below w.heap.size w w') : GrStep O w gb w' S := ⟨only_of_below hb O, O, h.below hb, Grows.refl _ _⟩
theorem GrStep.pre {O : Nat → Prop} {w w1 w' : World} {gb : Nat} {S' : GrS} (hb : Below w.heap.size w w1) (h : GrStep O w1 gb w' S') : GrStep O w gb w' S' := by
  obtain ⟨ho, O', hi, hg⟩ := h
  exact ⟨below_then_only hb ho, O', hi, fun b hb' => (hg b hb').imp id (fun e => Nat.le_trans hb.size e)⟩
theorem GrStep.post {O : Nat → Prop} {w w1 w' : World} {gb : Nat} {S' : GrS} (h : GrStep O w gb w1 S') (hb : Below w1.heap.size w1 w') : GrStep O w gb w' S' := by
  obtain ⟨ho, O', hi, hg⟩ := h
  exact ⟨ho.then_below hb, O', hi.below hb, hg⟩
theorem GrStep.trans {O O' : Nat → Prop} {w w1 w' : World} {gb : Nat} {S' : GrS} (ho : Only O w w1) (hg : Grows w O O') (h : GrStep O' w1 gb w' S') : GrStep O w gb w' S' := by
  obtain ⟨ho2, O2, hi, hg2⟩ := h
  exact ⟨ho.trans ho2 hg, O2, hi, hg.trans hg2 ho.size⟩

/-- What the graph's own cells hold. -/
theorem GrAt.c {O : Nat → Prop} {w : World} {gb : Nat} {S : GrS} {ov nv fv : Value} {mb rb : Nat} {M R : List (Value × Value)} (h : GrAt O w gb S ov nv fv mb rb M R) :
    w.cell? ⟨gb, 0, none⟩ = some ov ∧ w.cell? ⟨gb, 1, none⟩ = some nv ∧ w.cell? ⟨gb, 2, none⟩ = some (.map (some mb)) ∧ w.cell? ⟨gb, 3, none⟩ = some fv ∧ w.cell? ⟨gb, 4, none⟩ = some (.map (some rb)) := by
  refine ⟨?_, ?_, ?_, ?_, ?_⟩ <;> (rw [cell_of_heap h.cells]; rfl)

theorem GrS.node_lt {S : GrS} {i : Nat} {n : Nd} (h : S.g.node i = some n) : i < S.nl.length := by
  apply Nat.lt_of_not_le
  intro hle
  have : S.nl.getD i none = none := by rw [List.getD_eq_getElem?_getD, List.getElem?_eq_none hle]; rfl
  have h' : S.nl.getD i none = some n := h
  rw [this] at h'
  cases h'

/-- The nodes' slice, and its cells. -/
theorem GrAt.nodesAt {O : Nat → Prop} {w : World} {gb : Nat} {S : GrS} {ov nv fv : Value} {mb rb : Nat} {M R : List (Value × Value)} (h : GrAt O w gb S ov nv fv mb rb M R) :
    ∃ nb cap, nv = .slice (some ⟨nb, 0, none⟩) S.nl.length cap ∧ nb < w.heap.size ∧ O nb ∧ ∀ i, i < S.nl.length → ∀ j, j < 3 → w.cell? ⟨nb, i * 3 + j, none⟩ = (ndCells (S.nl.getD i none))[j]? := by
  have hn := h.nodes
  have h1 := h.n1
  rcases hn.2 with ⟨rfl, h0⟩ | ⟨g, cap, cur, rfl, hb, hg, hnc, hcm, hcs, htake⟩
  · omega
  · refine ⟨g, cap, rfl, (Array.getElem?_eq_some_iff.1 hg).1, h.nin g rfl, ?_⟩
    intro i hi j hj
    have hx := flat3_get S.nl i j hi hj
    have hl := flat3_len S.nl
    obtain ⟨x, hxx⟩ : ∃ x, (S.nl.flatMap ndCells)[i * 3 + j]? = some x := ⟨_, List.getElem?_eq_getElem (by rw [hl]; omega)⟩
    have := hn.cells (g := g) rfl (i * 3 + j) x hxx
    have hadd : (⟨g, 0, none⟩ : Addr).add (i * 3 + j) = ⟨g, 0 + (i * 3 + j), none⟩ := by unfold Addr.add; split <;> simp_all
    rw [hadd, Nat.zero_add] at this
    rw [this, ← hx, hxx]

theorem GrAt.nodeAt {O : Nat → Prop} {w : World} {gb : Nat} {S : GrS} {ov nv fv : Value} {mb rb : Nat} {M R : List (Value × Value)} (h : GrAt O w gb S ov nv fv mb rb M R) :
    ∃ nb cap, nv = .slice (some ⟨nb, 0, none⟩) S.nl.length cap ∧ nb < w.heap.size ∧ O nb ∧ ∀ i n, S.g.node i = some n → i < S.nl.length ∧ w.cell? ⟨nb, i * 3, none⟩ = some (.int .i64 (n.v : Nat)) ∧ w.cell? ⟨nb, i * 3 + 1, none⟩ = some (.int .i64 (n.t : Nat)) ∧ w.cell? ⟨nb, i * 3 + 2, none⟩ = some (.int .i64 (n.e : Nat)) := by
  obtain ⟨nb, cap, e, hlt, ho, hc⟩ := h.nodesAt
  refine ⟨nb, cap, e, hlt, ho, ?_⟩
  intro i n hn
  have hi := GrS.node_lt hn
  have hn' : S.nl.getD i none = some n := hn
  have c0 := hc i hi 0 (by omega)
  have c1 := hc i hi 1 (by omega)
  have c2 := hc i hi 2 (by omega)
  rw [hn'] at c0 c1 c2
  exact ⟨hi, c0, c1, c2⟩

/-- References are small. -/
theorem GrAt.small {O : Nat → Prop} {w : World} {gb : Nat} {S : GrS} {ov nv fv : Value} {mb rb : Nat} {M R : List (Value × Value)} (h : GrAt O w gb S ov nv fv mb rb M R) {r : Nat} (hr : S.g.ok r) : r < 400000 := by
  have hl := h.nlen
  rcases hr with e | ⟨n, e⟩
  · omega
  · have := GrS.node_lt e
    omega

end Go.Proofs.Ytebfmcafmojlaaa

