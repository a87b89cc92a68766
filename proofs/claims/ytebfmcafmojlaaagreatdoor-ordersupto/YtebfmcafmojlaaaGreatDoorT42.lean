/-
  The script, read off the argument.
-/
import Derived.Deep.Slices
import Derived.ProofKit
import Derived.OpenShut
import Derived.Test.YtebfmcafmojlaaaGreatDoorRows
import Derived.Test.YtebfmcafmojlaaaGreatDoorT40
namespace Go.Proofs.YtebfmcafmojlaaaGreatDoor
open Go.ChangeShapes Go.WideShapes Go.ChangeAt Go.RowKit Go.Deep
set_option linter.unusedSimpArgs false
set_option linter.unusedVariables false

theorem bulk_one {H : Type} (d : DataW H) : 1 ≤ Rows.uptoBulk d := by
  cases d with
  | lit l => cases l <;> simp [Rows.uptoBulk]
  | nil => simp [Rows.uptoBulk]
  | ptr d => simp [Rows.uptoBulk]
  | slice elems spare => simp [Rows.uptoBulk]
  | agg parts => simp [Rows.uptoBulk]
  | iface t d => simp [Rows.uptoBulk]
  | map entries => simp [Rows.uptoBulk]
  | held h => simp [Rows.uptoBulk]

/-- Where each of the list weighs c at the least. -/
theorem bulk_len {H : Type} (c : Nat) : ∀ (l : List (DataW H)), (∀ d ∈ l, c ≤ Rows.uptoBulk d) → c * l.length ≤ Rows.uptoBulkAll l
  | [], _ => by simp
  | d :: l, h => by
    have h1 := h d (List.mem_cons_self ..)
    have h2 := bulk_len c l (fun d hd => h d (List.mem_cons_of_mem _ hd))
    simp only [Rows.uptoBulkAll, List.length_cons, Nat.mul_add, Nat.mul_one]
    omega

theorem bulk_mem {H : Type} {d : DataW H} : ∀ {l : List (DataW H)}, d ∈ l → Rows.uptoBulk d ≤ Rows.uptoBulkAll l
  | [], h => by cases h
  | x :: l, h => by
    simp only [Rows.uptoBulkAll]
    cases List.mem_cons.1 h with
    | inl e => subst e; omega
    | inr e => have := bulk_mem e; omega

theorem Tryz.cInt : Tryz.prog.cellsOf 3 = 1 := by kernel_rfl
theorem Tryz.cBool : Tryz.prog.cellsOf 4 = 1 := by kernel_rfl
theorem Tryz.cInts : Tryz.prog.cellsOf 25 = 1 := by kernel_rfl
theorem Tryz.cStr : Tryz.prog.cellsOf 9 = 1 := by kernel_rfl
theorem Tryz.cOp : Tryz.prog.cellsOf 66 = 6 := by kernel_rfl

theorem cell_lt {w : World} {a : Addr} {v : Value} (h : w.cell? a = some v) : a.block < w.heap.size := by
  apply Classical.byContradiction
  intro hn
  have : w.heap[a.block]? = none := Array.getElem?_eq_none (by omega)
  unfold World.cell? at h
  rw [this] at h
  simp at h

/-- The list of a step. -/
theorem ints_open {H : Type} {enc : TypeId × Value → H} {W : World} {n : Nat} {c : Value} {x : DataW H × List MemPlace} (h : DataW.trod enc Tryz.prog W 0 (fun _ => true) true n 25 [c] = some x) (hb : Rows.uptoBulk x.1 ≤ 1048576) :
    ∃ F : List Int, FReads W.heap.size W c (F.map zv) ∧ F.length ≤ 1100000 ∧ ∀ z ∈ F, i64ok z := by
  rcases open_ints Tryz.underlying25 Tryz.underlying3 Tryz.cInt h with ⟨hcs, _⟩ | ⟨a, len, cap, zs, hcs, _, hl, hm, hz, hx, hcell, hwz⟩
  · simp only [List.cons.injEq, and_true] at hcs
    subst hcs
    exact ⟨[], .inl ⟨rfl, none, 0, rfl⟩, by simp, by simp⟩
  · simp only [List.cons.injEq, and_true] at hcs
    subst hcs
    subst hx
    have hzl : zs.length = cap := by simpa using hz
    have hlen : (zs.take len).length = len := by rw [List.length_take]; omega
    have hb2 : len ≤ 1048576 := by
      simp only [Rows.uptoBulk] at hb
      have h1 := bulk_len (H := H) 1 (lits .i64 (zs.take len)) (fun d _ => bulk_one d)
      have h2 : (lits (H := H) .i64 (zs.take len)).length = len := by unfold lits; rw [List.length_map, hlen]
      omega
    refine ⟨zs.take len, ?_, by omega, fun z hz' => bounds_i64 (hwz z (List.mem_of_mem_take hz'))⟩
    by_cases h0 : len = 0
    · subst h0
      exact .inl ⟨by simp, some a, cap, rfl⟩
    · have hc0 := hcell 0 (by omega)
      have hspot : a.spot = none := by simpa [Addr.add] using World.cell?_spot hc0
      have hblk : a.block < W.heap.size := by
        have := cell_lt hc0
        simpa [Addr.add] using this
      obtain ⟨b, off, sp⟩ := a
      dsimp only at hspot hblk
      subst hspot
      refine .inr ⟨b, off, cap, by rw [List.length_map, hlen], hblk, ?_⟩
      intro i hi
      rw [List.length_map, hlen] at hi
      have := hcell i (by omega)
      rw [Addr.add_lit] at this
      rw [this]
      simp only [zv, List.getD_eq_getElem?_getD, List.getElem?_map, List.getElem?_take]
      rw [if_pos hi, List.getElem?_eq_getElem (by omega)]
      rfl

set_option maxRecDepth 100000 in
/-- A step. -/
theorem op_open {H : Type} {enc : TypeId × Value → H} {W : World} {n : Nat} {cs : List Value} {D : DataW H} {Pl : List MemPlace} (h : DataW.trod enc Tryz.prog W 0 (fun _ => true) true n 66 cs = some (D, Pl)) (hb : Rows.uptoBulk D ≤ 1048576) :
    (∃ p : OpS × Value, cs = [.int .i64 p.1.kind, .int .i64 p.1.on, .int .i64 p.1.a, .bool p.1.v, p.2, .string p.1.s] ∧ OpOk W p.1 p.2) := by
  obtain ⟨xs, k, hk, hxy, hcl, hxl, hf⟩ := DataW.trod_struct Tryz.underlying66 h
  rw [Tryz.cOp] at hcl
  match xs, hxl, cs, hcl with
  | [y0, y1, y2, y3, y4, y5], _, [c0, c1, c2, c3, c4, c5], _ =>
    have g0 := hf 0 _ rfl
    have g1 := hf 1 _ rfl
    have g2 := hf 2 _ rfl
    have g3 := hf 3 _ rfl
    have g4 := hf 4 _ rfl
    have g5 := hf 5 _ rfl
    simp [Tryz.cInt, Tryz.cBool, Tryz.cInts, Tryz.cStr] at g0 g1 g2 g3 g4 g5
    obtain ⟨z0, e0, -, w0⟩ := DataW.trod_int Tryz.underlying3 g0
    obtain ⟨z1, e1, -, w1⟩ := DataW.trod_int Tryz.underlying3 g1
    obtain ⟨z2, e2, -, w2⟩ := DataW.trod_int Tryz.underlying3 g2
    obtain ⟨b3, e3, -⟩ := DataW.trod_bool Tryz.underlying4 g3
    obtain ⟨s5, e5, -, w5⟩ := DataW.trod_string Tryz.underlying9 g5
    simp only [Prod.mk.injEq] at hxy
    have hb4 : Rows.uptoBulk y4.1 ≤ 1048576 := by
      rw [hxy.1] at hb
      simp only [Rows.uptoBulk, List.map_cons, List.map_nil, Rows.uptoBulkAll] at hb
      omega
    obtain ⟨F, hF, hFl, hFz⟩ := ints_open g4 hb4
    simp only [List.cons.injEq, and_true] at e0 e1 e2 e3 e5
    subst e0
    subst e1
    subst e2
    subst e3
    subst e5
    exact ⟨(⟨z0, z1, z2, b3, F, s5⟩, c4), rfl, ⟨hF, hFl, hFz, w5, bounds_i64 w2, bounds_i64 w1, bounds_i64 w0⟩⟩

theorem op_bulk {H : Type} {enc : TypeId × Value → H} {W : World} {n : Nat} {cs : List Value} {D : DataW H} {Pl : List MemPlace} (h : DataW.trod enc Tryz.prog W 0 (fun _ => true) true n 66 cs = some (D, Pl)) : 7 ≤ Rows.uptoBulk D := by
  obtain ⟨xs, k, hk, hxy, hcl, hxl, hf⟩ := DataW.trod_struct Tryz.underlying66 h
  simp only [Prod.mk.injEq] at hxy
  rw [hxy.1]
  have h1 := bulk_len (H := H) 1 (xs.map (·.1)) (fun d _ => bulk_one d)
  rw [List.length_map, hxl] at h1
  simp only [Rows.uptoBulk]
  have h2 : (6 : Nat) ≤ Rows.uptoBulkAll (xs.map (·.1)) := by simpa using h1
  omega

theorem script_open {H : Type} {enc : TypeId × Value → H} {W : World} {fuel : Nat} {a : Option Addr} {len cap : Nat} {d : DataW H} {ps : List MemPlace} (h : DataW.trod enc Tryz.prog W 0 (fun _ => true) true fuel 22 [.slice a len cap] = some (d, ps)) (hb : Rows.uptoBulk d ≤ 1048576) :
    ∃ ops : List (OpS × Value), ops.length = len ∧ len ≤ 200000 ∧ Script W a ops := by
  rcases open_slice Tryz.underlying22 h with ⟨hcs, _⟩ | ⟨x, l, c, m, n, D, Pl, hcs, _, hl, hm, hmm, hx, hall⟩
  · simp only [List.cons.injEq, and_true, Value.slice.injEq] at hcs
    obtain ⟨rfl, rfl, rfl⟩ := hcs
    exact ⟨[], rfl, by omega, ⟨by simp, by simp⟩⟩
  · simp only [List.cons.injEq, and_true, Value.slice.injEq] at hcs
    obtain ⟨rfl, rfl, rfl⟩ := hcs
    simp only [Prod.mk.injEq] at hx
    obtain ⟨rfl, -⟩ := hx
    simp only [if_true] at hmm
    subst hmm
    simp only [Rows.uptoBulk] at hb
    rw [Tryz.cOp] at hall
    have hD : ∀ i, i < len → Rows.uptoBulk (D i) ≤ 1048576 := by
      intro i hi
      have := bulk_mem (l := (List.range len).map D) (List.mem_map.2 ⟨i, List.mem_range.2 hi, rfl⟩)
      omega
    have h7 := bulk_len (H := H) 7 ((List.range len).map D) (by
      intro d hd
      obtain ⟨i, hi, rfl⟩ := List.mem_map.1 hd
      obtain ⟨cs', _, h2⟩ := hall i (by have := List.mem_range.1 hi; omega)
      exact op_bulk h2)
    rw [List.length_map, List.length_range] at h7
    have each : ∀ i, i < len → ∃ p : OpS × Value, OpOk W p.1 p.2 ∧ W.cells? 0 (x.add (i * 6)) 6 = some [.int .i64 p.1.kind, .int .i64 p.1.on, .int .i64 p.1.a, .bool p.1.v, p.2, .string p.1.s] := by
      intro i hi
      obtain ⟨cs', h1, h2⟩ := hall i (by omega)
      obtain ⟨p, rfl, hok⟩ := op_open h2 (hD i hi)
      exact ⟨p, hok, h1⟩
    have : Inhabited (OpS × Value) := ⟨(⟨0, 0, 0, false, [], ByteArray.empty⟩, undef)⟩
    obtain ⟨f, hf⟩ := choose_lt each
    refine ⟨(List.range len).map f, by simp, by omega, ⟨?_, ?_⟩⟩
    · intro p hp
      obtain ⟨i, hi, rfl⟩ := List.mem_map.1 hp
      exact (hf i (List.mem_range.1 hi)).1
    · intro i hi
      rw [List.length_map, List.length_range] at hi
      have h1 := (hf i hi).2
      obtain ⟨_, _, hc⟩ := World.cells?_some h1
      have q0 := hc 0 (by omega)
      have q1 := hc 1 (by omega)
      have q2 := hc 2 (by omega)
      have q3 := hc 3 (by omega)
      have q4 := hc 4 (by omega)
      have q5 := hc 5 (by omega)
      rw [add_add] at q0 q1 q2 q3 q4 q5
      simp only [List.getElem?_cons_succ, List.getElem?_cons_zero] at q0 q1 q2 q3 q4 q5
      have q00 := (World.cells?_some (hf 0 (by omega)).2).2.2 0 (by omega)
      rw [add_add, Addr.add_zero'] at q00
      have hspot : x.spot = none := World.cell?_spot q00
      have hblk : x.block < W.heap.size := cell_lt q00
      obtain ⟨b, off, sp⟩ := x
      dsimp only at hspot hblk
      subst hspot
      simp only [Addr.add_lit] at q0 q1 q2 q3 q4 q5
      refine ⟨b, off, rfl, hblk, f i, by rw [List.getElem?_map, List.getElem?_range hi]; rfl, ?_, ?_, ?_, ?_, ?_, ?_⟩
      · simpa using q0
      · simpa [Nat.add_assoc] using q1
      · simpa [Nat.add_assoc] using q2
      · simpa [Nat.add_assoc] using q3
      · simpa [Nat.add_assoc] using q4
      · simpa [Nat.add_assoc] using q5

end Go.Proofs.YtebfmcafmojlaaaGreatDoor

