/-
  copsekeep: begin: in memory.
-/
import Derived.Test.YtebfmcafmojlaaaT27
namespace Go.Proofs.Ytebfmcafmojlaaa
open Go.RowKit Go.Maps
set_option linter.unusedSimpArgs false
set_option linter.unusedVariables false

theorem woodCells_var (x : Nat) (vars nums : List Nat) (sv : Value) (vl : vars.length = 6) (v r : Nat) (hv : v < 6) : (woodCells x vars nums sv).toArray.setIfInBounds (1 + v) (.int .i64 (r : Nat)) = (woodCells x (vars.set v r) nums sv).toArray := by
  match vars, vl with
  | [a, b, c, d, e, f], _ =>
    have : v = 0 ∨ v = 1 ∨ v = 2 ∨ v = 3 ∨ v = 4 ∨ v = 5 := by omega
    rcases this with rfl | rfl | rfl | rfl | rfl | rfl <;> rfl

theorem woodCells_num (x : Nat) (vars nums : List Nat) (sv : Value) (vl : vars.length = 6) (nl : nums.length = 6) (v r : Nat) (hv : v < 6) : (woodCells x vars nums sv).toArray.setIfInBounds (7 + v) (.int .i64 (r : Nat)) = (woodCells x vars (nums.set v r) sv).toArray := by
  match vars, vl with
  | [a, b, c, d, e, f], _ =>
    match nums, nl with
    | [a', b', c', d', e', f'], _ =>
      have : v = 0 ∨ v = 1 ∨ v = 2 ∨ v = 3 ∨ v = 4 ∨ v = 5 := by omega
      rcases this with rfl | rfl | rfl | rfl | rfl | rfl <;> rfl

theorem WoodAt.set {O : Nat → Prop} {w : World} {wb x : Nat} {C : CopS} {vars nums stay : List Nat} {sv : Value} {Oc : Nat → Prop} (h : WoodAt O w wb x C vars nums stay sv Oc) {o : Nat} {u : Value} {vars' nums' : List Nat} (hs : (woodCells x vars nums sv).toArray.setIfInBounds o u = (woodCells x vars' nums' sv).toArray) (vl : vars'.length = 6) (nl : nums'.length = 6) :
    WoodAt O (w.setCell ⟨wb, o, none⟩ u) wb x C vars' nums' stay sv Oc ∧ Only O w (w.setCell ⟨wb, o, none⟩ u) := by
  have hne := h.ne
  have hk : ∀ k, k ≠ wb → (w.setCell ⟨wb, o, none⟩ u).heap[k]? = w.heap[k]? := fun k e => Below.heap_setCell _ _ _ _ e
  refine ⟨⟨fun b hb => by simpa [World.setCell] using h.lt b hb, h.self, h.oc, ?_, vl, nl, ?_, ?_, h.nw, h.ns⟩, (Only.refl O w).setCell (p := ⟨wb, o, none⟩) (.inl h.self) _⟩
  · rw [heap_setCell_at h.cells, hs]
  · exact h.cop.keep (by simp [World.setCell]) (fun k hk' => hk k (fun e => h.nw (by rw [← e]; exact hk')))
  · exact h.stay.same (fun k hk' => hk k (fun e => hne (by rw [← e]; exact hk')))

/-- While the variables are made. -/
def BegI (w0 : World) (wb x : Nat) (lv : Value) (left : List Nat) (wr : World) : Prop :=
  ∃ O Oc C vars nums, WoodAt O wr wb x C vars nums [] (.slice none 0 0) Oc ∧ BegOk C vars nums left (6 - left.length) ∧ wr.ownsRow 0 3 1 lv left.length (left.map natv) ∧ (∀ b, lv.ownBlock = some b → ¬ O b) ∧ (∀ b, O b → w0.heap.size ≤ b) ∧ Below w0.heap.size w0 wr

def wood0 (x : Value) (ok : Bool) : Array Value := #[x, .int .i64 0, .int .i64 0, .int .i64 0, .int .i64 0, .int .i64 0, .int .i64 0, .int .i64 0, .int .i64 0, .int .i64 0, .int .i64 0, .int .i64 0, .int .i64 0, .slice none 0 0, .bool ok]

theorem begin_new {w w1 : World} {x : Nat} {O : Nat → Prop} (hO : ∀ b, O b → (w.alloc (.cells (wood0 (.pointer none) false) 28)).heap.size ≤ b) (hb : Below (w.alloc (.cells (wood0 (.pointer none) false) 28)).heap.size (w.alloc (.cells (wood0 (.pointer none) false) 28)) w1) :
    w1.heap[w.heap.size]? = some (.cells (wood0 (.pointer none) false) 28 (0, 0)) ∧ (∀ b, O b → w.heap.size + 1 ≤ b) ∧ Below w.heap.size w w1 := by
  have hs : (w.alloc (.cells (wood0 (.pointer none) false) 28)).heap.size = w.heap.size + 1 := by simp
  rw [hs] at hO hb
  refine ⟨(hb.block _ (by omega)).trans (heap_alloc_new w _), hO, ((Below.refl _ w).alloc (Nat.le_refl _) _).trans (hb.mono (by omega))⟩

theorem begin_start {w w1 : World} {x : Nat} {O : Nat → Prop} (hC : CopI O w1 x ⟨300, [], [], T0 1 0⟩) (hh : w1.heap[w.heap.size]? = some (.cells (wood0 (.pointer none) false) 28 (0, 0))) (hO : ∀ b, O b → w.heap.size + 1 ≤ b) (hb : Below w.heap.size w w1) {w2 : World}
    (h2 : w2 = ((w1.setCell ⟨w.heap.size, 0, none⟩ (.pointer (some ⟨x, 0, none⟩))).setCell ⟨w.heap.size, 14, none⟩ (.bool true)).alloc (.cells #[.int .i64 0, .int .i64 1, .int .i64 2, .int .i64 3, .int .i64 4, .int .i64 5] 3)) :
    BegI w w.heap.size x (.slice (some ⟨w1.heap.size, 0, none⟩) 6 6) [0, 1, 2, 3, 4, 5] w2 := by
  obtain ⟨W, hW⟩ : ∃ W, W = (w1.setCell ⟨w.heap.size, 0, none⟩ (.pointer (some ⟨x, 0, none⟩))).setCell ⟨w.heap.size, 14, none⟩ (.bool true) := ⟨_, rfl⟩
  rw [← hW] at h2
  have hlt : w.heap.size < w1.heap.size := (Array.getElem?_eq_some_iff.1 hh).1
  have hWs : W.heap.size = w1.heap.size := by rw [hW]; simp [World.setCell]
  have hWk : ∀ k, k ≠ w.heap.size → W.heap[k]? = w1.heap[k]? := by
    intro k hk
    rw [hW, Below.heap_setCell _ _ _ _ hk, Below.heap_setCell _ _ _ _ hk]
  have hWw : W.heap[w.heap.size]? = some (.cells (woodCells x [0, 0, 0, 0, 0, 0] [0, 0, 0, 0, 0, 0] (.slice none 0 0)).toArray 28 (0, 0)) := by
    rw [hW, heap_setCell_at (heap_setCell_at hh)]
    rfl
  have hbW : Below w.heap.size w W := by
    rw [hW]
    exact (hb.setCell (p := ⟨w.heap.size, 0, none⟩) (Nat.le_refl _) _).setCell (p := ⟨w.heap.size, 14, none⟩) (Nat.le_refl _) _
  have h2k : ∀ k, k < W.heap.size → w2.heap[k]? = W.heap[k]? := by
    intro k hk
    rw [h2]
    exact Below.heap_alloc _ _ _ hk
  have h2s : w2.heap.size = W.heap.size + 1 := by rw [h2]; simp
  have hOl : ∀ b, O b → b < w1.heap.size := hC.lt
  refine ⟨fun b => O b ∨ b = w.heap.size, O, ⟨300, [], [], T0 1 0⟩, [0, 0, 0, 0, 0, 0], [0, 0, 0, 0, 0, 0], ⟨?_, .inr rfl, fun b hb => .inl hb, ?_, rfl, rfl, ?_, ?_, ?_, ?_⟩, BegOk.start, ?_, ?_, ?_, ?_⟩
  · rintro b (hb' | hb')
    · have := hOl b hb'; omega
    · omega
  · rw [h2k _ (by omega), hWw]
  · refine hC.keep (by omega) (fun k hk => ?_)
    have := hOl k hk
    have := hO k hk
    rw [h2k _ (by omega), hWk k (by omega)]
  · exact ⟨World.ownsRow_nil _ _ _ _, by intro k hk; simp [Value.ownBlock] at hk⟩
  · intro h; have := hO _ h; omega
  · intro b hb'; simp [Value.ownBlock] at hb'
  · refine ⟨rfl, .inr ⟨w1.heap.size, 6, #[.int .i64 0, .int .i64 1, .int .i64 2, .int .i64 3, .int .i64 4, .int .i64 5], rfl, Nat.zero_le _, ?_, Nat.le_refl _, by unfold maxLen; omega, rfl, rfl⟩⟩
    rw [h2, ← hWs]
    exact heap_alloc_new _ _
  · intro b hb'
    simp [Value.ownBlock] at hb'
    rintro (h | h)
    · have := hOl b h; omega
    · omega
  · rintro b (h | h)
    · have := hO b h; omega
    · omega
  · rw [h2]
    exact hbW.alloc hbW.size _

def sliceLen : Value → Nat
  | .slice _ n _ => n
  | _ => 0

theorem BegI.row {w0 wr : World} {wb x : Nat} {lv : Value} {left : List Nat} (h : BegI w0 wb x lv left wr) (h0 : left ≠ []) : ∃ g cap, lv = .slice (some ⟨g, 0, none⟩) left.length cap ∧ left.length ≤ cap ∧ cap ≤ maxLen ∧ ∀ i, i < left.length → wr.cell? ⟨g, i, none⟩ = some (.int .i64 (left.getD i 0 : Nat)) := by
  obtain ⟨O, Oc, C, vars, nums, hA, hok, hrow, hn, hO, hb⟩ := h
  have hpos := List.length_pos_iff.2 h0
  have hr := hrow.2
  rcases hr with ⟨rfl, e⟩ | ⟨g, cap, cur, rfl, _, hg, hle, hmx, _⟩
  · omega
  · refine ⟨g, cap, rfl, hle, hmx, ?_⟩
    intro i hi
    have := hrow.cells (g := g) rfl i (.int .i64 (left.getD i 0 : Nat)) (by rw [List.getElem?_map, List.getD_eq_getElem?_getD, List.getElem?_eq_getElem hi]; rfl)
    rwa [Addr.add_lit, Nat.zero_add] at this

/-- The variable v has been made: r. -/
def BegMid (w0 : World) (wb x : Nat) (lv : Value) (left : List Nat) (k : Nat) (w3 : World) : Prop :=
  ∃ O Oc C vars nums, WoodAt O w3 wb x C vars nums [] (.slice none 0 0) Oc ∧ BegOk C vars nums (left.take k ++ left.drop (k + 1)) (6 - (left.take k ++ left.drop (k + 1)).length) ∧ w3.ownsRow 0 3 1 lv left.length (left.map natv) ∧ (∀ b, O b → w0.heap.size ≤ b) ∧ Below w0.heap.size w0 w3

theorem BegI.var {w0 wr : World} {wb x : Nat} {lv : Value} {left : List Nat} (h : BegI w0 wb x lv left wr) {k v : Nat} (hk : k < left.length) (hv : left.getD k 0 = v) :
    Calls Try.prog 24 #[.pointer (some ⟨x, 0, none⟩), .string (letS v)] wr fun e w2 => ∃ r : Nat, e = .returned (.tuple #[.int .i64 (r : Nat), .int .i64 0]) ∧ w2.cell? ⟨wb, 14, none⟩ = some (.bool true) ∧ w2.frozen? ⟨wb, 14, none⟩ = false ∧ (∃ q, w2.cell? ⟨wb, 1 + v, none⟩ = some q) ∧ w2.frozen? ⟨wb, 1 + v, none⟩ = false ∧ (∃ q, w2.cell? ⟨wb, 7 + v, none⟩ = some q) ∧ w2.frozen? ⟨wb, 7 + v, none⟩ = false ∧
      ∀ w3, w3 = ((w2.setCell ⟨wb, 14, none⟩ (.bool true)).setCell ⟨wb, 1 + v, none⟩ (.int .i64 (r : Nat))).setCell ⟨wb, 7 + v, none⟩ (.int .i64 (6 - left.length : Nat)) → BegMid w0 wb x lv left k w3 := by
  obtain ⟨O, Oc, C, vars, nums, hA, hok, hrow, hn, hO, hb⟩ := h
  have hlen := hok.len
  have hvm : v ∈ left := by
    rw [← hv, List.getD_eq_getElem?_getD, List.getElem?_eq_getElem hk]
    exact List.getElem_mem hk
  have hv6 := hok.lt v hvm
  have hnm := hok.nml
  refine (copseVar_is hA.cop _ hok.lists (letS v) (letS_size v) (letS_name ⟨v, hv6⟩) (hok.named hvm) (by omega) (hok.room (by omega))).mono ?_
  intro e w2 hp
  rcases hp with ⟨h1, _⟩ | ⟨_, r, hm, hf, rfl, hst⟩
  · exact absurd h1 (hok.room (by omega))
  obtain ⟨ho, O', Oc', hA', hg⟩ := hA.copped hst
  have hc := hA'.c
  refine ⟨r, rfl, hc.2.2.2.2.1, hc.2.2.2.2.2 14, ⟨_, hc.2.1 v hv6⟩, hc.2.2.2.2.2 _, ⟨_, hc.2.2.1 v hv6⟩, hc.2.2.2.2.2 _, ?_⟩
  rintro w3 rfl
  have hok' := hok.step hk hv r (by rw [hnm] at hf; exact hf)
  obtain ⟨hA1, ho1⟩ := hA'.okay
  obtain ⟨hA2, ho2⟩ := hA1.set (woodCells_var x vars nums (.slice none 0 0) hok.vl v r hv6) (by simpa using hok.vl) hok.nl
  obtain ⟨hA3, ho3⟩ := hA2.set (woodCells_num x (vars.set v r) nums (.slice none 0 0) (by simpa using hok.vl) hok.nl v (6 - left.length) hv6) (by simpa using hok.vl) (by simpa using hok.nl)
  have hoall : Only O' w2 _ := (ho1.trans ho2 (Grows.refl _ _)).trans ho3 (Grows.refl _ _)
  have hall := ho.trans hoall hg
  have hlj : 6 - left.length + 1 = 6 - (left.take k ++ left.drop (k + 1)).length := by
    rw [List.length_append, List.length_take, List.length_drop]
    omega
  rw [hlj] at hok'
  refine ⟨O', Oc', _, _, _, hA3, hok', ?_, ?_, ?_⟩
  · exact owns_same hrow (fun b hb' => hall.block b (by have := hrow.lt b hb'; omega) (hn b hb'))
  · intro b hb'
    rcases hg b hb' with e | e
    · exact hO b e
    · have := hb.size; omega
  · exact ⟨hb.os ▸ hall.os, hb.tape ▸ hall.tape, hb.output ▸ hall.output, Nat.le_trans hb.size hall.size, fun q hq => (hall.block q (Nat.lt_of_lt_of_le hq hb.size) (fun e => by have := hO q e; omega)).trans (hb.block q hq)⟩

theorem BegMid.next {w0 w3 w5 : World} {wb x : Nat} {lv lv' : Value} {left : List Nat} {k : Nat} (h : BegMid w0 wb x lv left k w3) (hb5 : Below w3.heap.size w3 w5) (hrow : w5.ownsRow w3.heap.size 3 1 lv' ((left.take k).map natv ++ (left.drop (k + 1)).map natv).length ((left.take k).map natv ++ (left.drop (k + 1)).map natv)) :
    BegI w0 wb x lv' (left.take k ++ left.drop (k + 1)) w5 := by
  obtain ⟨O, Oc, C, vars, nums, hA, hok, _, hO, hb⟩ := h
  rw [← List.map_append, List.length_map] at hrow
  refine ⟨O, Oc, C, vars, nums, hA.below hb5, hok, ownsRow_base hrow (Nat.zero_le _), ?_, hO, hb.trans (hb5.mono hb.size)⟩
  intro b hb' hq
  have := (hrow.lt b hb').1
  have := hA.lt b hq
  omega

theorem BegMid.cells {w0 w3 : World} {wb x g cap : Nat} {left : List Nat} {k : Nat} (h : BegMid w0 wb x (.slice (some ⟨g, 0, none⟩) left.length cap) left k w3) (h0 : 0 < left.length) : g < w3.heap.size ∧ ∀ i, i < left.length → w3.cell? ⟨g, i, none⟩ = some (.int .i64 (left.getD i 0 : Nat)) := by
  obtain ⟨O, Oc, C, vars, nums, hA, hok, hrow, hO, hb⟩ := h
  refine ⟨(hrow.lt g rfl).2, ?_⟩
  intro i hi
  have := hrow.cells (g := g) rfl i (.int .i64 (left.getD i 0 : Nat)) (by rw [List.getElem?_map, List.getD_eq_getElem?_getD, List.getElem?_eq_getElem hi]; rfl)
  rwa [Addr.add_lit, Nat.zero_add] at this

theorem BegI.left {w0 wr : World} {wb x : Nat} {lv : Value} {left : List Nat} (h : BegI w0 wb x lv left wr) : left.length ≤ 6 ∧ ∀ k, k < left.length → left.getD k 0 < 6 := by
  obtain ⟨O, Oc, C, vars, nums, hA, hok, hrow, hn, hO, hb⟩ := h
  have := hok.len
  refine ⟨by omega, fun k hk => hok.lt _ ?_⟩
  rw [List.getD_eq_getElem?_getD, List.getElem?_eq_getElem hk]
  exact List.getElem_mem hk

theorem Reads.form {B : Nat} {w : World} {v : Value} {xs : List Value} (h : Reads B w v xs) : ∃ ao cap, v = .slice ao xs.length cap := by
  rcases h with ⟨rfl, rfl⟩ | ⟨b, off, cap, rfl, _⟩
  · exact ⟨_, _, rfl⟩
  · exact ⟨_, _, rfl⟩

/-- A number that came in. -/
theorem Reads.num {w wr : World} {ao : Option Addr} {cap : Nat} {raws : List Int} (h : Reads w.heap.size w (.slice ao raws.length cap) (raws.map zv)) (hb : Below w.heap.size w wr) {q : Nat} (hq : q < raws.length) : ∃ b off, ao = some ⟨b, off, none⟩ ∧ wr.cell? ⟨b, off + q, none⟩ = some (.int .i64 (raws.getD q 0)) := by
  rcases h with ⟨_, e⟩ | ⟨b, off, c, e, hlt, hc⟩
  · have : raws = [] := by simpa using e
    subst this
    simp at hq
  · simp only [Value.slice.injEq] at e
    obtain ⟨rfl, _, _⟩ := e
    refine ⟨b, off, rfl, ?_⟩
    have := (hb.cell (p := ⟨b, off + q, none⟩) hlt).trans (hc q (by simpa using hq))
    rw [this]
    simp [zv, hq]

theorem raw_ok {raws : List Int} (hz : ∀ z ∈ raws, i64ok z) {q : Nat} (hq : q < raws.length) : i64ok (raws.getD q 0) := by
  rw [List.getD_eq_getElem?_getD, List.getElem?_eq_getElem hq]
  exact hz _ (List.getElem_mem hq)

theorem reads_take {w : World} {B g c k : Nat} {left : List Nat} (hg : g < B) (hk : k ≤ left.length) (hc : ∀ i, i < left.length → w.cell? ⟨g, i, none⟩ = some (.int .i64 (left.getD i 0 : Nat))) : Reads B w (.slice (some ⟨g, 0, none⟩) k c) ((left.take k).map natv) := by
  refine .inr ⟨g, 0, c, by rw [List.length_map, List.length_take, Nat.min_eq_left hk], hg, ?_⟩
  intro i hi
  rw [List.length_map, List.length_take] at hi
  rw [Nat.zero_add, hc i (by omega)]
  simp only [List.getD_eq_getElem?_getD, List.getElem?_map, List.getElem?_take]
  rw [if_pos (by omega), List.getElem?_eq_getElem (by omega)]
  rfl

theorem reads_drop {w : World} {B g c k : Nat} {left : List Nat} (hg : g < B) (hk : k ≤ left.length) (hc : ∀ i, i < left.length → w.cell? ⟨g, i, none⟩ = some (.int .i64 (left.getD i 0 : Nat))) : Reads B w (.slice (some ⟨g, k, none⟩) (left.length - k) c) ((left.drop k).map natv) := by
  refine .inr ⟨g, k, c, by rw [List.length_map, List.length_drop], hg, ?_⟩
  intro i hi
  rw [List.length_map, List.length_drop] at hi
  rw [hc (k + i) (by omega)]
  simp only [List.getD_eq_getElem?_getD, List.getElem?_map, List.getElem?_drop]
  rw [List.getElem?_eq_getElem (by omega)]
  rfl

theorem reads_edge {w : World} {B g c k : Nat} {left : List Nat} (hg : g < B) (hk : left.length = k + 1) : Reads B w (.slice (some ⟨g, 0, none⟩) (left.length - (k + 1)) c) ((left.drop (k + 1)).map natv) := by
  have h0 : left.drop (k + 1) = [] := List.drop_eq_nil_of_le (by omega)
  rw [h0]
  refine .inr ⟨g, 0, c, by rw [hk]; simp, hg, ?_⟩
  intro i hi
  simp at hi

theorem reads_edge0 {w : World} {B g c k : Nat} {left : List Nat} (hg : g < B) (hk : left.length = k + 1) : Reads B w (.slice (some ⟨g, 0, none⟩) 0 c) ((left.drop (k + 1)).map natv) := by
  have := reads_edge (w := w) (c := c) hg hk
  rwa [hk, Nat.sub_self] at this

theorem run_append_ownr {P : Program} (w : World) (B B' : Nat) (t ty e : TypeId) (i : TypeInfo) (z : Value) (bytes : Nat) (ht : P.underlying t = some (.slice e)) (hi : P.info? e = some i) (hz : i.zero = some z)
    (hsize : i.size = 1) (hby : i.bytes = bytes) (hzs : z.cells.size = 1)
    (v : Value) (xs : List Value) (hown : w.ownsRow B e 1 v xs.length xs) (x : Value) (ys : List Value) (hr : Reads B' w x ys) (h1 : ∀ u ∈ ys, u.oneCell' = true)
    (h63 : xs.length + ys.length ≤ maxLen) (hbytes : (xs.length + ys.length) * bytes ≤ 140737488355328) (hB : B ≤ w.heap.size) :
    ∃ v' w', (Builtin.append_ #[t, t] ty #[v, x]).run P w = .ok v' w' ∧ w'.ownsRow B e 1 v' (xs ++ ys).length (xs ++ ys) ∧ Below B w w' := by
  rcases hr with ⟨rfl, rfl⟩ | ⟨b', off', cap', rfl, hb', hc'⟩
  · refine ⟨v, w, run_append_owned_none (P := P) (w := w) B t ty e i 1 ht hi v _ _ hown, by simpa using hown, Below.refl _ _⟩
  · obtain ⟨v', w', hr, ho, hg, hz'⟩ := run_append_own (P := P) w B t ty e i z 1 bytes ht hi hz hsize hby hzs (by decide) v xs.length xs hown ⟨b', off', none⟩ ys.length cap' ys (by simp) (by
        intro j u hj
        have hjl : j < ys.length := (List.getElem?_eq_some_iff.1 hj).1
        have := hc' j hjl
        rw [List.getD_eq_getElem?_getD, hj] at this
        simpa [Addr.add_lit] using this) h1 h63 hbytes hB
    refine ⟨v', w', hr, ?_, (Below.refl B w).grown hg hB (fun k hk => (hown.lt k hk).1)⟩
    rw [List.length_append]
    exact ho

theorem wpList_append_ownr {P : Program} {w : World} {ops : Array Oper} {rest : List Oper} {o : Oper} {a : Act} {Q : Exit → Act → World → Prop} (hgd : o.guard = none) (s x : Operand) (t : TypeId)
    (ho : o.op = .call { callee := .builtin .append, args := #[s, x], argTypes := #[t, t] })
    (B B' : Nat) (e : TypeId) (i : TypeInfo) (z : Value) (bytes : Nat) (ht : P.underlying t = some (.slice e)) (hi : P.info? e = some i) (hz : i.zero = some z)
    (hsize : i.size = 1) (hby : i.bytes = bytes) (hzs : z.cells.size = 1)
    (v : Value) (xs : List Value) (hs : a.eval s = v) (hown : w.ownsRow B e 1 v xs.length xs) (xv : Value) (ys : List Value) (hx : a.eval x = xv) (hr : Reads B' w xv ys) (h1 : ∀ u ∈ ys, u.oneCell' = true)
    (h63 : xs.length + ys.length ≤ maxLen) (hbytes : (xs.length + ys.length) * bytes ≤ 140737488355328) (hB : B ≤ w.heap.size)
    (h : ∀ v' w', w'.ownsRow B e 1 v' (xs ++ ys).length (xs ++ ys) → Below B w w' → wpList P ops Q rest (a.put o.dst v') w') : wpList P ops Q (o :: rest) a w := by
  refine wpList_plain hgd fun K hK => ?_
  obtain ⟨v', w', hrun, h2, h3⟩ := run_append_ownr (P := P) w B B' t o.type e i z bytes ht hi hz hsize hby hzs v xs hown xv ys hr h1 h63 hbytes hB
  unfold Oper.wp execOp
  simp only [ho, resolve, invoke, builtin, Sem.run_bind, Sem.run_pure, Result.andThen_ok, List.map_toArray, List.map_cons, List.map_nil, hs, hx, hrun]
  exact hK _ _ (h v' w' h2 h3)

end Go.Proofs.Ytebfmcafmojlaaa

/-
  copsekeep: begin: its end.
-/
namespace Go.Proofs.Ytebfmcafmojlaaa
open Go.RowKit Go.Maps
set_option linter.unusedSimpArgs false
set_option linter.unusedVariables false

def WX (O : Nat → Prop) (w : World) (wb x : Nat) (C : CopS) (vars nums : List Nat) (K : Nat) : Prop := ∃ Oc, WoodAt O w wb x C vars nums [] (.slice none 0 0) Oc ∧ WoodOk C vars nums [] K

theorem WX.below {O : Nat → Prop} {w w' : World} {wb x : Nat} {C : CopS} {vars nums : List Nat} {K : Nat} (h : WX O w wb x C vars nums K) (hb : Below w.heap.size w w') : WX O w' wb x C vars nums K := by
  obtain ⟨Oc, hA, hok⟩ := h
  exact ⟨Oc, hA.below hb, hok⟩

def XStep (O : Nat → Prop) (w : World) (wb x : Nat) (w' : World) (C' : CopS) (vars nums : List Nat) (K : Nat) : Prop := Only O w w' ∧ ∃ O', WX O' w' wb x C' vars nums K ∧ Grows w O O'

theorem XStep.after {O : Nat → Prop} {w w1 w2 : World} {wb x : Nat} {C : CopS} {vars nums : List Nat} {K : Nat} (h : XStep O w1 wb x w2 C vars nums K) (hb : Below w.heap.size w w1) : XStep O w wb x w2 C vars nums K := by
  obtain ⟨ho, O', hI, hg⟩ := h
  exact ⟨below_then_only hb ho, O', hI, fun b hb' => (hg b hb').imp id (fun e => Nat.le_trans hb.size e)⟩

theorem XStep.trans {O O1 : Nat → Prop} {w w1 w2 : World} {wb x : Nat} {C : CopS} {vars nums : List Nat} {K : Nat} (ho : Only O w w1) (hg : Grows w O O1) (h : XStep O1 w1 wb x w2 C vars nums K) : XStep O w wb x w2 C vars nums K := by
  obtain ⟨ho2, O', hI, hg2⟩ := h
  exact ⟨ho.trans ho2 hg, O', hI, hg.trans hg2 ho.size⟩

theorem told_x {O : Nat → Prop} {w w1 : World} {wb x : Nat} {C : CopS} {vars nums : List Nat} {sv : Value} {Oc : Nat → Prop} {K : Nat} {Lt : List Tab} {t : Tab} {e : Ending} (hA : WoodAt O w wb x C vars nums [] (.slice none 0 0) Oc) (hok : WoodOk C vars nums [] K) (hK : K ≤ 18) (hL : Lists C Lt) (hp : PostTell CopI Oc w x C (fullC C Lt t) (toldC C t) t e w1) :
    ∃ r : Nat, e = .returned (.tuple #[.int .i64 (r : Nat), .int .i64 0]) ∧ ∃ C', TExt C C' ∧ C'.T r = some t ∧ XStep O w wb x w1 C' vars nums (K + 1) := by
  rcases hp with ⟨h1, _⟩ | ⟨_, r, hm, hf, rfl, hst⟩
  · exact absurd h1 (few_room hok hK hL t)
  · obtain ⟨ho, O', Oc', hA', hg⟩ := hA.copped hst
    have hext : TExt C (toldC C t r) := by
      intro h f hh
      show updT C.T r t h = some f
      unfold updT
      split
      · rename_i e; subst e; rw [hf f hh]
      · exact hh
    refine ⟨r, rfl, toldC C t r, hext, ?_, ho, O', ⟨Oc', hA', ?_⟩, hg⟩
    · show updT C.T r t r = some t
      simp [updT]
    · refine ⟨fun i hi => hext _ _ (hok.vT i hi), hok.n6, hok.ninj, hok.cap, hok.order, hok.nmlen, hok.names, fun h hh => ?_, ?_⟩
      · simp at hh
      · obtain ⟨F, hF, hf'⟩ := hok.few
        refine ⟨F ++ [t], by simp; omega, ?_⟩
        intro h f hh
        have hh' : updT C.T r t h = some f := hh
        unfold updT at hh'
        split at hh'
        · cases hh'
          exact .inr (.inl (by simp))
        · rcases hf' h f hh' with a | a | a
          · exact .inl a
          · exact .inr (.inl (List.mem_append_left _ a))
          · exact .inr (.inr a)

theorem WX.c {O : Nat → Prop} {w : World} {wb x : Nat} {C : CopS} {vars nums : List Nat} {K : Nat} (h : WX O w wb x C vars nums K) :
    w.cell? ⟨wb, 1, none⟩ = some (.int .i64 (vars.getD 0 0 : Nat)) ∧ w.cell? ⟨wb, 2, none⟩ = some (.int .i64 (vars.getD 1 0 : Nat)) ∧ w.cell? ⟨wb, 14, none⟩ = some (.bool true) ∧ w.frozen? ⟨wb, 14, none⟩ = false := by
  obtain ⟨Oc, hA, hok⟩ := h
  exact ⟨hA.c.2.1 0 (by omega), hA.c.2.1 1 (by omega), hA.c.2.2.2.2.1, hA.c.2.2.2.2.2 14⟩

theorem endIte {O : Nat → Prop} {w W : World} {wb x : Nat} {C : CopS} {vars nums : List Nat} (h : WX O w wb x C vars nums 0) (hb : Below w.heap.size w W) :
    Calls Try.prog 25 #[.pointer (some ⟨x, 0, none⟩), .int .i64 (vars.getD 0 0 : Nat), .int .i64 (vars.getD 1 0 : Nat), .int .i64 1] W fun e w2 => ∃ r : Nat, e = .returned (.tuple #[.int .i64 (r : Nat), .int .i64 0]) ∧ w2.cell? ⟨wb, 1, none⟩ = some (.int .i64 (vars.getD 0 0 : Nat)) ∧ w2.cell? ⟨wb, 2, none⟩ = some (.int .i64 (vars.getD 1 0 : Nat)) ∧ ∃ C', C'.T r = some (iteT (mask (nums.getD 0 0)) (mask (nums.getD 1 0)) 0) ∧ XStep O w wb x w2 C' vars nums 1 := by
  obtain ⟨Oc, hA, hok⟩ := h.below hb
  obtain ⟨Lt, hL⟩ := hA.cop.lists
  refine (copseIte_is hA.cop Lt hL _ _ 1 _ _ 0 (hok.vT 0 (by omega)) (hok.vT 1 (by omega)) hA.cop.consts.1).mono ?_
  intro e w2 hp
  obtain ⟨r, h1, C', h2, h3, h4⟩ := told_x (sv := .slice none 0 0) hA hok (by omega) hL hp
  obtain ⟨ho, O', hX, hg⟩ := h4
  refine ⟨r, h1, hX.c.1, hX.c.2.1, C', h3, ?_⟩
  exact XStep.after ⟨ho, O', hX, hg⟩ hb

theorem endNodes {O : Nat → Prop} {w W : World} {wb x : Nat} {C : CopS} {vars nums : List Nat} {r : Nat} (h : WX O w wb x C vars nums 1) (hr : C.T r = some (iteT (mask (nums.getD 0 0)) (mask (nums.getD 1 0)) 0)) (hW : W = w.alloc (.cells #[.int .i64 (r : Nat)] 3)) :
    Calls Try.prog 19 #[.pointer (some ⟨x, 0, none⟩), .slice (some ⟨w.heap.size, 0, none⟩) 1 1] W fun e w2 => e = .returned (.tuple #[.int .i64 2, .int .i64 0]) ∧ XStep O w wb x w2 C vars nums 1 := by
  have hb : Below w.heap.size w W := by rw [hW]; exact (Below.refl _ w).alloc (Nat.le_refl _) _
  obtain ⟨Oc, hA, hok⟩ := h.below hb
  have hrd : Reads W.heap.size W (.slice (some ⟨w.heap.size, 0, none⟩) 1 1) ([r].map natv) := by
    refine .inr ⟨w.heap.size, 0, 1, rfl, by rw [hW]; simp, ?_⟩
    intro i hi
    have : i = 0 := by simpa using hi
    subst this
    have hh : W.heap[w.heap.size]? = some (.cells #[.int .i64 (r : Nat)] 3 (0, 0)) := by rw [hW]; exact heap_alloc_new w _
    rw [cell_of_heap hh]
    rfl
  refine (copseNodes_is hA.cop [r] [iteT (mask (nums.getD 0 0)) (mask (nums.getD 1 0)) 0] _ hrd (by simp) (by simp [hr])).mono ?_
  rintro e w2 ⟨he, hst⟩
  have h2 := two_nodesO hok.order (hok.n6 0 (by omega)) (hok.n6 1 (by omega)) (by intro q; have := hok.ninj 0 1 (by omega) (by omega) q; omega)
  rw [h2] at he
  obtain ⟨ho, O', Oc', hA', hg⟩ := hA.copped hst
  exact ⟨he, XStep.after ⟨ho, O', ⟨Oc', hA', hok⟩, hg⟩ hb⟩

theorem not_ne (t : Tab) : t ≠ ~~~ t := by
  intro e
  have := congrArg (fun x : Tab => x.getLsbD 0) e
  simp at this

theorem endNot {O : Nat → Prop} {w : World} {wb x : Nat} {C : CopS} {vars nums : List Nat} {r : Nat} {t : Tab} (h : WX O w wb x C vars nums 1) (hr : C.T r = some t) :
    Calls Try.prog 26 #[.pointer (some ⟨x, 0, none⟩), .int .i64 (r : Nat)] w fun e w2 => ∃ y : Nat, e = .returned (.tuple #[.int .i64 (y : Nat), .int .i64 0]) ∧ (r : Int) ≠ (y : Int) ∧ w2.cell? ⟨wb, 14, none⟩ = some (.bool true) ∧ w2.frozen? ⟨wb, 14, none⟩ = false ∧ ∃ C', XStep O w wb x (w2.setCell ⟨wb, 14, none⟩ (.bool true)) C' vars nums 2 := by
  obtain ⟨Oc, hA, hok⟩ := h
  obtain ⟨Lt, hL⟩ := hA.cop.lists
  refine (copseNot_is hA.cop Lt hL r t hr).mono ?_
  intro e w2 hp
  obtain ⟨y, h1, C', h2, h3, ho, O', hX, hg⟩ := told_x (sv := .slice none 0 0) hA hok (by omega) hL hp
  have hX' := hX
  obtain ⟨Oc', hA', hok'⟩ := hX
  obtain ⟨hA2, ho2⟩ := hA'.okay
  refine ⟨y, h1, ?_, hX'.c.2.2.1, hX'.c.2.2.2, C', ho.trans ho2 hg, O', ⟨Oc', hA2, hok'⟩, hg⟩
  intro q
  have q' : r = y := by omega
  have := h2 r t hr
  rw [q', h3] at this
  exact not_ne t (Option.some.inj this).symm

def BeginP (w : World) (e : Ending) (w' : World) : Prop := ∃ wb O C vars nums, e = .returned (.pointer (some ⟨wb, 0, none⟩)) ∧ w'.cell? ⟨wb, 14, none⟩ = some (.bool true) ∧ WoodI O w' wb C vars nums [] 2 ∧ (∀ b, O b → w.heap.size ≤ b) ∧ Below w.heap.size w w'

theorem below_only {w0 wr w' : World} {O O' : Nat → Prop} (hO : ∀ b, O b → w0.heap.size ≤ b) (hb : Below w0.heap.size w0 wr) (ho : Only O wr w') (hg : Grows wr O O') : (∀ b, O' b → w0.heap.size ≤ b) ∧ Below w0.heap.size w0 w' := by
  refine ⟨?_, ?_⟩
  · intro b hb'
    rcases hg b hb' with e | e
    · exact hO b e
    · have := hb.size; omega
  · exact ⟨hb.os ▸ ho.os, hb.tape ▸ ho.tape, hb.output ▸ ho.output, Nat.le_trans hb.size ho.size, fun q hq => (ho.block q (Nat.lt_of_lt_of_le hq hb.size) (fun e => by have := hO q e; omega)).trans (hb.block q hq)⟩

theorem begin_done {w0 wr w' : World} {O : Nat → Prop} {wb x : Nat} {C : CopS} {vars nums : List Nat} (hO : ∀ b, O b → w0.heap.size ≤ b) (hb : Below w0.heap.size w0 wr) (h : XStep O wr wb x w' C vars nums 2) : BeginP w0 (.returned (.pointer (some ⟨wb, 0, none⟩))) w' := by
  obtain ⟨ho, O', hX, hg⟩ := h
  obtain ⟨h1, h2⟩ := below_only hO hb ho hg
  refine ⟨wb, O', C, vars, nums, rfl, hX.c.2.2.1, ?_, h1, h2⟩
  obtain ⟨Oc, hA, hok⟩ := hX
  exact ⟨x, _, Oc, hA, hok⟩

end Go.Proofs.Ytebfmcafmojlaaa

