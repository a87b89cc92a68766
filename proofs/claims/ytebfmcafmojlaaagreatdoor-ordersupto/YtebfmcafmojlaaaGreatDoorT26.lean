/-
  copse.refs, where the body of the range writes one map.
-/
import Derived.Stop.RegionWithIn
import Derived.Test.YtebfmcafmojlaaaGreatDoorT25
namespace Go.Proofs.YtebfmcafmojlaaaGreatDoor
open Go.RowKit Go.Maps Go.Shelf
set_option linter.unusedSimpArgs false
set_option linter.unusedVariables false
attribute [local go_sem] Oper.semAt_some

/-- Of the blocks below B only q may have turned. -/
def But (q B : Nat) (W W' : World) : Prop := ∀ k, k < B → k ≠ q → W'.heap[k]? = W.heap[k]?

theorem But.refl (q B : Nat) (W : World) : But q B W W := fun _ _ _ => rfl
theorem But.trans {q B : Nat} {W W1 W2 : World} (h : But q B W W1) (k : But q B W1 W2) : But q B W W2 := fun i h1 h2 => (k i h1 h2).trans (h i h1 h2)

theorem cell_same {W W' : World} {b o : Nat} (h : W'.heap[b]? = W.heap[b]?) : W'.cell? ⟨b, o, none⟩ = W.cell? ⟨b, o, none⟩ := by
  unfold World.cell?
  simp only [h]

set_option maxHeartbeats 1000000 in
set_option maxRecDepth 100000 in
theorem refs_stops_but {G : Gr} (n : Nat) (hn : 1 ≤ n) (rs : List (RefT G)) (Bx q : Nat) (fv : Value) (w : World) (hx : w.cell? ⟨Bx, 0, none⟩ = some fv) (hxl : Bx < w.heap.size) (hr : Reads w.heap.size w fv (rs.map refCell)) (hl : rs.length ≤ 1000000000) (hq : ∃ es ck, w.heap[q]? = some (.map es ck)) :
    SeqStopsK Fence.wide n Tryz.prog 75 #[.pointer (some ⟨Bx, 0, none⟩)] (encR G) (But q w.heap.size) (fun xs => xs = rs) (fun _ => True) rs.length w := fun l J Jx W hW hJ hJx hY h0 => by
  have hx' : W.cell? ⟨Bx, 0, none⟩ = some fv := (hW.cell (p := ⟨Bx, 0, none⟩) hxl).trans hx
  have hr' := hr.below hW (Nat.le_refl _)
  have hq' : ∃ es ck, W.heap[q]? = some (.map es ck) := by
    obtain ⟨es, ck, h⟩ := hq
    exact ⟨es, ck, (hW.block q (Array.getElem?_eq_some_iff.1 h).1).trans h⟩
  clear hr hx hq
  refine callsIn_of_wp Tryz.func75 rfl trivial ?_ rfl
  simp only [Tryz.ntmps75, List.size_toArray, List.length_cons, List.length_nil, Nat.reduceAdd, Nat.reduceSub, Array.replicate_succ, Array.replicate_zero, List.push_toArray, List.append_toArray, List.nil_append, List.cons_append]
  rcases hr' with ⟨rfl, hnil⟩ | ⟨b, off, cap, rfl, hlt, hc⟩
  · have hnil' : rs = [] := by simpa using hnil
    subst hnil'
    gi_wp2
    gi_loopw [7] (fun i wr => i = .int .i64 0 ∧ J [] wr) (fun _ _ => 0)
    case atStart => exact ⟨rfl, h0⟩
    case round =>
      obtain ⟨rfl, hJ0⟩ := hrel
      gi_wp2
      go_end0
      exact ⟨⟨_, rfl⟩, .inl ⟨[], rfl, hJ0⟩⟩
  · simp only [List.length_map] at hc hx'
    have hcx : ∀ k (hkl : k < rs.length) (wr : World), But q w.heap.size W wr → wr.cell? ⟨b, off + k, none⟩ = some (.int .i64 ((rs[k]'hkl).1 : Int)) := by
      intro k hkl wr hbw
      have h1 : W.cell? ⟨b, off + k, none⟩ = some (.int .i64 ((rs[k]'hkl).1 : Int)) := by
        rw [hc k (by simpa using hkl)]
        simp [hkl, refCell]
      have hne : b ≠ q := by
        intro e
        subst e
        obtain ⟨es, ck, hl⟩ := hq'
        unfold World.cell? at h1
        simp [hl] at h1
      rw [← h1]
      exact cell_same (hbw b hlt hne)
    have HX : Hid _ := hcx
    clear hc hcx hq'
    gi_wp2
    gi_loopw [7] (fun i wr => ∃ k : Nat, k ≤ rs.length ∧ i = .int .i64 k ∧ J (rs.take k) wr ∧ But q w.heap.size W wr) (fun i _ => rs.length - (intOf i).toNat)
    case atStart => exact ⟨0, Nat.zero_le _, rfl, by simpa using h0, But.refl _ _ _⟩
    case round =>
      obtain ⟨k, hk, rfl, hJs, hbw⟩ := hrel
      by_cases hkl : k < rs.length
      · have hcell := HX.out k hkl wr hbw
        obtain ⟨fn, tmps, assign, body, hy, hR⟩ := hY (rs.take k) (rs[k]'hkl) wr hJs (by simp; omega)
        simp only [encR] at hy
        have htk : rs.take k ++ [rs[k]'hkl] = rs.take (k + 1) := (List.take_succ_eq_append_getElem hkl).symm
        rw [htk] at hR
        have hkl' : (k : Int) < (rs.length : Int) := by omega
        obtain ⟨z, hz⟩ : ∃ z : Nat, z = (rs[k]'hkl).1 := ⟨_, rfl⟩
        rw [← hz] at hcell hy
        have HZ : Hid (z = (rs[k]'hkl).1) := hz
        have HB : Hid (But q w.heap.size W wr) := hbw
        clear hz htk hbw
        gi_wp2
        refine hR.mono ?_
        rintro e W3 (⟨rfl, hJ3, hk3⟩ | ⟨rfl, hJx3⟩)
        · gi_wp2
          go_roundw
          case rel => exact ⟨k + 1, by omega, by go_num, hJ3, HB.out.trans hk3⟩
          case measure => simp [intOf]; omega
        · gi_wp2
          refine bodyPost_ret (results_none rfl _ _ _) rfl ?_
          exact ⟨⟨_, rfl⟩, .inr ⟨_, trivial, hJx3⟩⟩
      · have hk' : k = rs.length := by omega
        subst hk'
        rw [List.take_length] at hJs
        have HB : Hid (But q w.heap.size W wr) := hbw
        clear hbw
        gi_wp2
        go_end0
        exact ⟨⟨_, rfl⟩, .inl ⟨rs, rfl, hJs⟩⟩

end Go.Proofs.YtebfmcafmojlaaaGreatDoor

/-
  copse: Collect (what it leaves).
-/
namespace Go.Proofs.YtebfmcafmojlaaaGreatDoor
open Go.RowKit Go.Maps Go.Shelf
set_option linter.unusedSimpArgs false
set_option linter.unusedVariables false

noncomputable def collC (C : CopS) (hs : List Nat) : CopS := { C with T := fun r => by classical exact if r = 0 ∨ r = 1 ∨ r ∈ hs then C.T r else none }

theorem collC_T {C : CopS} {hs : List Nat} {r : Nat} {f : Tab} : (collC C hs).T r = some f ↔ (r = 0 ∨ r = 1 ∨ r ∈ hs) ∧ C.T r = some f := by
  unfold collC
  simp only
  split
  · rename_i h; simp [h]
  · rename_i h; simp [h]

/-- While the handles to be kept are put into the new map. -/
structure CollAt (O : Nat → Prop) (w : World) (x cap : Nat) (names : List ByteArray) (S : GrS) (nv : Value) (gb l2 : Nat) (Og : Nat → Prop) (bx : Nat) {G : Gr} (xs : List (RefT G)) (W : World) : Prop where
  at_ : ∃ L', (∀ p, p ∈ L' ↔ (p = (natv 0, .agg #[]) ∨ p = (natv 1, .agg #[])) ∨ ∃ r ∈ xs, p = (natv r.1, .agg #[])) ∧ CopAt (fun b => O b ∨ b = l2) W x cap names S nv gb l2 L' Og
  only : Only O w W
  box : W.heap[bx]? = some (.cells #[.pointer (some ⟨x, 0, none⟩)] 28 (0, 0))

theorem CollAt.start {O : Nat → Prop} {w w1 w2 w3 : World} {x cap : Nat} {names : List ByteArray} {S : GrS} {nv : Value} {gb lb : Nat} {L L2 : List (Value × Value)} {Og : Nat → Prop} {bx : Nat} {G : Gr} (hA : CopAt O w x cap names S nv gb lb L Og) (hb1 : Below w.heap.size w w1) (hbx : w1.heap[bx]? = some (.cells #[.pointer (some ⟨x, 0, none⟩)] 28 (0, 0))) (hbxl : w.heap.size ≤ bx)
    (hb2 : Below w1.heap.size w1 w2) (hs2 : w1.heap.size < w2.heap.size) (hm : MapIs Tryz.prog 80 w2 w1.heap.size L2) (hL2 : ∀ p, p ∈ L2 ↔ p = (natv 0, .agg #[]) ∨ p = (natv 1, .agg #[])) (h3 : w3 = w2.setCell ⟨x, 3, none⟩ (.map (some w1.heap.size))) :
    CollAt O w x cap names S nv gb w1.heap.size Og bx ([] : List (RefT G)) w3 := by
  have hs1 := hb1.size
  have hxl := hA.lt x hA.self
  have hbw := hb1.trans (hb2.mono hs1)
  have hA2 := hA.below hbw
  have hblk : ∀ b, b ≠ x → w3.heap[b]? = w2.heap[b]? := fun b hb => by rw [h3, Below.heap_setCell _ _ _ _ hb]
  have hs3 : w3.heap.size = w2.heap.size := by rw [h3]; simp [World.setCell]
  obtain ⟨n1, n2, n3⟩ := hA2.ne
  refine ⟨⟨L2, fun p => by rw [hL2]; simp, ?_⟩, ?_, ?_⟩
  · refine ⟨?_, .inl hA.self, .inr rfl, fun b hb => .inl (hA.og b hb), ?_, ?_, ?_, ?_, hA.nx, fun e => by have := hA.lt _ (hA.og _ e); omega, hA.nn⟩
    · rintro b (hb | hb)
      · have := hA2.lt b hb; omega
      · omega
    · rw [h3, heap_setCell_at hA2.cells]; rfl
    · exact (hA2.names.same (fun b hb => hblk b (fun e => n2 (by rw [← e]; exact hb)))).mono (fun b hb => .inl hb)
    · exact hA2.graph.keep (by rw [hs3]; exact Nat.le_refl _) (fun b hb => hblk b (fun e => hA.nx (by rw [← e]; exact hb)))
    · exact hm.same (hblk _ (by omega))
  · rw [h3]; exact (only_of_below hbw O).setCell (p := ⟨x, 3, none⟩) (.inl hA.self) _
  · have hbl := (Array.getElem?_eq_some_iff.1 hbx).1
    exact (hblk bx (by omega)).trans ((hb2.block bx hbl).trans hbx)

theorem CollAt.next {O : Nat → Prop} {w W : World} {x cap : Nat} {names : List ByteArray} {S : GrS} {nv : Value} {gb l2 : Nat} {Og : Nat → Prop} {bx : Nat} {G : Gr} {xs : List (RefT G)} (h : CollAt O w x cap names S nv gb l2 Og bx xs W) (hl2 : w.heap.size ≤ l2) (hne : bx ≠ l2) (r : RefT G) :
    W.cell? ⟨bx, 0, none⟩ = some (.pointer (some ⟨x, 0, none⟩)) ∧ W.cell? ⟨x, 3, none⟩ = some (.map (some l2)) ∧ ∃ W', (Instr.mapUpdate 75 (.map (some l2)) (.int .i64 (r.1 : Int)) (.agg #[])).run Tryz.prog W = .ok () W' ∧ MapTurn W W' l2 ∧ CollAt O w x cap names S nv gb l2 Og bx (xs ++ [r]) W' := by
  obtain ⟨⟨L', hL', hA⟩, ho, hb⟩ := h
  refine ⟨by rw [cell_of_heap hb]; rfl, hA.c.2.2.2, ?_⟩
  obtain ⟨W', L3, hrun, h1, h2, h3, _, _⟩ := hA.live.store ref_keyed Tryz.underlying75 (key := .int .i64 (r.1 : Int)) (val := .agg #[]) (ref_key_ok _ (wf_i64_nat _ r.2.2))
  obtain ⟨hA', ho'⟩ := hA.lived h2 h1
  refine ⟨W', hrun, h2, ⟨L3, ?_, hA'⟩, ?_, ?_⟩
  · intro p
    rw [h3, hL']
    constructor
    · rintro (e | ⟨e | ⟨q, h4, h5⟩, _⟩)
      · exact .inr ⟨r, by simp, e⟩
      · exact .inl e
      · exact .inr ⟨q, List.mem_append_left _ h4, h5⟩
    · intro hp
      by_cases c : p = (.int .i64 (r.1 : Int), .agg #[])
      · exact .inl c
      · right
        have hin : (p = (natv 0, .agg #[]) ∨ p = (natv 1, .agg #[])) ∨ ∃ q ∈ xs, p = (natv q.1, .agg #[]) := by
          rcases hp with e | ⟨q, h4, h5⟩
          · exact .inl e
          · rcases List.mem_append.1 h4 with e | e
            · exact .inr ⟨q, e, h5⟩
            · simp at e
              subst e
              exact absurd h5 c
        refine ⟨hin, fun e => c (Prod.ext e ?_)⟩
        rcases hin with (i1 | i1) | ⟨q, _, i1⟩ <;> rw [i1]
  · refine ⟨ho'.os.trans ho.os, ho'.tape.trans ho.tape, ho'.output.trans ho.output, Nat.le_trans ho.size ho'.size, fun b hb1 hb2 => ?_⟩
    exact (ho'.block b (Nat.lt_of_lt_of_le hb1 ho.size) (fun e => e.elim hb2 (fun e => by omega))).trans (ho.block b hb1 hb2)
  · exact (h2.1.block bx (Array.getElem?_eq_some_iff.1 hb).1 (by simp; exact hne)).trans hb

theorem CollAt.kept {O : Nat → Prop} {w W W' : World} {x cap : Nat} {names : List ByteArray} {S : GrS} {nv : Value} {gb l2 : Nat} {Og : Nat → Prop} {bx : Nat} {G : Gr} {xs : List (RefT G)} (h : CollAt O w x cap names S nv gb l2 Og bx xs W) {B : Nat} (hO : ∀ b, O b → b < B) (h2 : l2 < B) (h3 : bx < B) (hwB : w.heap.size ≤ B) (hs : W.heap.size ≤ W'.heap.size) (hos : W'.os = W.os) (htp : W'.tape = W.tape) (hout : W'.output = W.output)
    (hk : ∀ k, k < B → k < W.heap.size → W'.heap[k]? = W.heap[k]?) : CollAt O w x cap names S nv gb l2 Og bx xs W' := by
  obtain ⟨⟨L', hL', hA⟩, ho, hb⟩ := h
  refine ⟨⟨L', hL', hA.keep hs (fun k hk' => hk k (hk'.elim (hO k) (fun e => by omega)) (hA.lt k hk'))⟩, ?_, ?_⟩
  · exact ⟨hos.trans ho.os, htp.trans ho.tape, hout.trans ho.output, Nat.le_trans ho.size hs, fun b hb1 hb2 => (hk b (by omega) (Nat.lt_of_lt_of_le hb1 ho.size)).trans (ho.block b hb1 hb2)⟩
  · exact (hk bx h3 (Array.getElem?_eq_some_iff.1 hb).1).trans hb

/-- All are in: what the Sweep needs, and what it leaves. -/
theorem CollAt.mid {O : Nat → Prop} {w W : World} {x cap : Nat} {names : List ByteArray} {S : GrS} {nv : Value} {gb l2 : Nat} {Og : Nat → Prop} {bx : Nat} {L : List (Value × Value)} {xs : List (RefT S.g)} (h : CollAt O w x cap names S nv gb l2 Og bx xs W) (hok : CopOk cap names S L) :
    ∃ L', (∀ r, liveH L' r ↔ r = 0 ∨ r = 1 ∨ r ∈ xs.map (·.1)) ∧ CopAt (fun b => O b ∨ b = l2) W x cap names S nv gb l2 L' Og ∧ CopMid names S L' (liveH L) := by
  obtain ⟨⟨L', hL', hA⟩, ho, hb⟩ := h
  have hl : ∀ r, liveH L' r ↔ r = 0 ∨ r = 1 ∨ r ∈ xs.map (·.1) := by
    intro r
    unfold liveH
    rw [hL']
    constructor
    · rintro ((e | e) | ⟨q, h1, e⟩)
      · exact .inl (natv_inj (congrArg Prod.fst e))
      · exact .inr (.inl (natv_inj (congrArg Prod.fst e)))
      · exact .inr (.inr (List.mem_map.2 ⟨q, h1, (natv_inj (congrArg Prod.fst e)).symm⟩))
    · rintro (e | e | e)
      · subst e; exact .inl (.inl rfl)
      · subst e; exact .inl (.inr rfl)
      · obtain ⟨q, h1, h2⟩ := List.mem_map.1 e
        exact .inr ⟨q, h1, by rw [h2]⟩
  refine ⟨L', hl, hA, ⟨hok.mid.k, hok.mid.full, ?_, (hl 0).2 (.inl rfl), (hl 1).2 (.inr (.inl rfl)), hok.mid.order, hok.mid.olen, hok.mid.n6, fun r hr => hok.mid.liveOk hr, ?_, hok.mid.nlen, hok.mid.cnt⟩⟩
  · intro p hp
    rcases (hL' p).1 hp with (e | e) | ⟨q, _, e⟩
    · exact ⟨0, e, .inl rfl⟩
    · exact ⟨1, e, .inl rfl⟩
    · exact ⟨q.1, e, q.2.1⟩
  · intro i hi
    exact (hok.mid.reach i hi).mono (fun r hr => .inr (hr.resolve_right id))

theorem collC_is {cap : Nat} {names : List ByteArray} {S S' : GrS} {L L' : List (Value × Value)} {hs : List Nat} (ho : S'.order = S.order) (ht : ∀ r, S'.g.tab r = S.g.tab r) (hl : ∀ r, liveH L' r ↔ r = 0 ∨ r = 1 ∨ r ∈ hs) (hlive : ∀ r, liveH L' r → liveH L r) : collC (copC cap names S L) hs = copC cap names S' L' := by
  have hT : (collC (copC cap names S L) hs).T = (copC cap names S' L').T := copT_ext (fun r f => by
    rw [collC_T, copC_T, copC_T, ← hl, ht]
    constructor
    · rintro ⟨h1, h2, h3⟩; exact ⟨h1, h3⟩
    · rintro ⟨h1, h2⟩; exact ⟨h1, hlive r h1, h2⟩)
  show CopS.mk _ _ _ _ = CopS.mk _ _ _ _
  simp only [CopS.mk.injEq]
  exact ⟨rfl, rfl, ho.symm, hT⟩

end Go.Proofs.YtebfmcafmojlaaaGreatDoor

/-
  copse: Collect.
-/
namespace Go.Proofs.YtebfmcafmojlaaaGreatDoor
open Go.RowKit Go.Maps Go.Shelf
set_option linter.unusedSimpArgs false
set_option linter.unusedVariables false
attribute [local go_sem] Oper.semAt_some

def CollPost (O : Nat → Prop) (w : World) (x : Nat) (C : CopS) (hs : List Nat) (e : Ending) (w' : World) : Prop := e = .returned (.int .i64 0) ∧ CopStep CopI O w x w' (collC C hs)

/-- For a region that is shown not to panic. -/
def Calm (Q : Exit → Act → World → Prop) : Exit → Act → World → Prop
  | .normal, a, w => Q .normal a w
  | _, _, _ => False
theorem Calm.le {Q : Exit → Act → World → Prop} : ∀ e a w, Calm Q e a w → Q e a w := by
  intro e a w h
  cases e <;> first | exact h | exact h.elim
theorem Calm.normal {Q : Exit → Act → World → Prop} {a : Act} {w : World} (h : Q .normal a w) : Calm Q .normal a w := h

set_option maxHeartbeats 2000000 in
set_option maxRecDepth 100000 in
theorem copseCollect_at {O : Nat → Prop} {w : World} {x cap : Nat} {names : List ByteArray} {S : GrS} {nv : Value} {gb lb : Nat} {L : List (Value × Value)} {Og : Nat → Prop} (hok : CopOk cap names S L) (hA : CopAt O w x cap names S nv gb lb L Og) (xs : List (RefT S.g)) (hxl : ∀ y ∈ xs, liveH L y.1) (fv : Value) (hr : Reads w.heap.size w fv (xs.map refCell)) (hfo : ∀ ad n c, fv = .slice (some ad) n c → ¬ O ad.block) (hlen : xs.length ≤ 2000000) :
    Calls Tryz.prog 71 #[.pointer (some ⟨x, 0, none⟩), fv] w (CollPost O w x (copC cap names S L) (xs.map (·.1))) := by
  obtain ⟨fao, fn, fcap, efv⟩ : ∃ ao n cap, fv = .slice ao n cap := by
    rcases hr with ⟨h, _⟩ | ⟨b, off, cap, h, _⟩
    · exact ⟨none, 0, 0, h⟩
    · exact ⟨_, _, _, h⟩
  obtain ⟨W0, hW0⟩ : ∃ W0, W0 = w.alloc (.cells #[.pointer (some ⟨x, 0, none⟩)] 28) := ⟨_, rfl⟩
  have hb0 : Below w.heap.size w W0 := by rw [hW0]; exact (Below.refl _ w).alloc (Nat.le_refl _) _
  have hs0 : W0.heap.size = w.heap.size + 1 := by rw [hW0]; simp
  have hc0 : W0.heap[w.heap.size]? = some (.cells #[.pointer (some ⟨x, 0, none⟩)] 28 (0, 0)) := by rw [hW0]; exact heap_alloc_new w _
  have q0 : W0.cell? ⟨w.heap.size, 0, none⟩ = some (.pointer (some ⟨x, 0, none⟩)) := by rw [cell_of_heap hc0]; rfl
  have hA0 := hA.below hb0
  have hare0 := copseAreLive_is (zs := xs.map (fun n => (n.1 : Int))) (fv := fv) hA0.c.2.2.2 (hA0.lt x hA0.self) hA0.live hok.mid.agg (by
    rw [List.map_map]
    exact (hr.below hb0 (Nat.le_refl _)).mono hb0.size) (by
    intro z hz
    obtain ⟨y, hy, rfl⟩ := List.mem_map.1 hz
    have := hok.mid.small (hok.mid.liveOk (hxl y hy))
    unfold i64ok
    omega) (by simp; omega)
  have hare : Calls Tryz.prog 36 #[.pointer (some ⟨x, 0, none⟩), fv] W0 fun e w' => e = .returned (.bool true) ∧ Below W0.heap.size W0 w' := by
    refine hare0.mono ?_
    rintro e w' ⟨b, rfl, h1, h2⟩
    rw [h1.2 (fun z hz => by
      obtain ⟨y, hy, rfl⟩ := List.mem_map.1 hz
      exact hxl y hy)]
    exact ⟨rfl, h2⟩
  clear hare0
  have hstart : ∀ w1 w2 : World, Below W0.heap.size W0 w1 → LiveCPost w1.drew (.returned (.map (some w1.heap.size))) w2 → (w1.drew.cell? ⟨w.heap.size, 0, none⟩ = some (.pointer (some ⟨x, 0, none⟩)) ∧ w2.cell? ⟨w.heap.size, 0, none⟩ = some (.pointer (some ⟨x, 0, none⟩)) ∧ w2.cell? ⟨x, 3, none⟩ = some (.map (some lb)) ∧ w2.frozen? ⟨x, 3, none⟩ = false) ∧
      CollAt O w x cap names S nv gb w1.heap.size Og w.heap.size ([] : List (RefT S.g)) (w2.setCell ⟨x, 3, none⟩ (.map (some w1.heap.size))) ∧ w.heap.size < w1.heap.size ∧ w1.heap.size < w2.heap.size := by
    intro w1 w2 hb1 hp
    obtain ⟨_, L2, hb2, hs2, hm2, hL2⟩ := hp
    have hb1d : Below W0.heap.size W0 w1.drew := hb1.drew
    have hbx : w1.drew.heap[w.heap.size]? = _ := (hb1d.block _ (by omega)).trans hc0
    have hbx2 : w2.heap[w.heap.size]? = _ := (hb2.block _ (Array.getElem?_eq_some_iff.1 hbx).1).trans hbx
    have hbw : Below w.heap.size w w1.drew := hb0.trans (hb1d.mono hb0.size)
    have hA2 := hA.below (hbw.trans (hb2.mono hbw.size))
    have h1s := hb1.size
    refine ⟨⟨by rw [cell_of_heap hbx]; rfl, by rw [cell_of_heap hbx2]; rfl, hA2.c.2.2.2, frozen_of_heap hA2.cells⟩, ?_, by omega, hs2⟩
    have := CollAt.start (w1 := w1.drew) (G := S.g) hA hbw hbx (Nat.le_refl _) hb2 hs2 hm2 hL2 rfl
    exact this
  have hlc := fun W => liveConstants_is W
  have hrefs := fun W => copseRefs_is fao fn fcap W
  subst efv
  have HS : Hid _ := hstart
  have HO : Hid (CopOk cap names S L) := hok
  have HA : Hid (CopAt O w x cap names S nv gb lb L Og) := hA
  have HR : Hid (Reads w.heap.size w (.slice fao fn fcap) (xs.map refCell)) := hr
  have HX : Hid (∀ y ∈ xs, liveH L y.1) := hxl
  have HFO : Hid (∀ ad n c, Value.slice fao fn fcap = .slice (some ad) n c → ¬ O ad.block) := hfo
  clear hfo
  clear hstart hok hA hr hxl hA0 hc0 hb0
  refine (callsIn_wide (n := 6)).1 ?_
  refine callsIn_of_wp_marks Tryz.func71 rfl trivial ?_ rfl
  simp only [Tryz.ntmps71, List.size_toArray, List.length_cons, List.length_nil, Nat.reduceAdd, Nat.reduceSub, Array.replicate_succ, Array.replicate_zero, List.push_toArray, List.append_toArray, List.nil_append, List.cons_append]
  gi_wp2_with (rw [← hW0]; refine ⟨trivial, ?_⟩; gi_at_call 36; refine (callsIn_wide.2 hare).mono ?_; clear hare; rintro e w1 ⟨rfl, hb1⟩)
  have q1 : w1.cell? ⟨w.heap.size, 0, none⟩ = some (.pointer (some ⟨x, 0, none⟩)) := (hb1.cell (p := ⟨w.heap.size, 0, none⟩) (by show w.heap.size < _; omega)).trans q0
  clear q0
  refine wpIn_mono ?_ Calm.le
  gi_region_with (refine ⟨trivial, ?_⟩; gi_at_call 51; refine (callsIn_wide.2 (hlc _)).mono ?_; clear hlc; rintro e w2 hp; have hv := hp.1; subst hv; obtain ⟨⟨s1, s2, s3, s4⟩, hst, hl1, hl2⟩ := HS.out _ _ hb1 hp; clear hp)
  all_goals
    refine Calm.normal ?_
    clear s1 s2 s3 s4 q1
    gi_wp2_with (refine ⟨trivial, ?_⟩; gi_at_call 38; refine (callsIn_wide.2 (hrefs _)).mono ?_; clear hrefs; rintro e w3 ⟨rfl, rfl⟩)
    obtain ⟨l2, hl2'⟩ : ∃ l2, l2 = w1.heap.size := ⟨_, rfl⟩
    rw [← hl2'] at hst hl1 hl2
    obtain ⟨W3, hW3⟩ : ∃ W3, W3 = w2.setCell ⟨x, 3, none⟩ (.map (some l2)) := ⟨_, rfl⟩
    rw [← hl2', ← hW3]
    rw [← hW3] at hst
    have hs3 : W3.heap.size = w2.heap.size := by rw [hW3]; simp [World.setCell]
    clear hW3 HS hW0 hs0 hb1 hl2'
    obtain ⟨W4, hW4⟩ : ∃ W4, W4 = W3.alloc (.cells #[.slice fao fn fcap] 25) := ⟨_, rfl⟩
    rw [← hW4]
    have hb4 : Below W3.heap.size W3 W4 := by rw [hW4]; exact (Below.refl _ W3).alloc (Nat.le_refl _) _
    have hs4 : W4.heap.size = w2.heap.size + 1 := by rw [hW4]; simp [hs3]
    have hc4 : W4.heap[w2.heap.size]? = some (.cells #[.slice fao fn fcap] 25 (0, 0)) := by rw [hW4, ← hs3]; exact heap_alloc_new W3 _
    clear hW4
    have hOw : ∀ b, O b → b < w.heap.size := HA.out.lt
    have hst4 : CollAt O w x cap names S nv gb l2 Og w.heap.size ([] : List (RefT S.g)) W4 := hst.kept (B := W3.heap.size) (fun b hb => by have := hOw b hb; omega) (by omega) (by omega) (by omega) hb4.size hb4.os hb4.tape hb4.output (fun k hk _ => hb4.block k hk)
    have hrd : Reads W4.heap.size W4 (.slice fao fn fcap) (xs.map refCell) := by
      have h0 := HR.out
      rcases h0 with ⟨h1, h2⟩ | ⟨b, off, cap', h1, h2, h3⟩
      · exact .inl ⟨h1, h2⟩
      · refine .inr ⟨b, off, cap', h1, by omega, fun i hi => ?_⟩
        rw [← h3 i hi]
        exact cell_same (hst4.only.block b h2 (HFO.out _ _ _ h1))
    have hq : ∃ es ck, W4.heap[l2]? = some (.map es ck) := by
      obtain ⟨⟨L', _, hA'⟩, _, _⟩ := hst4
      obtain ⟨es, ck, h, _⟩ := hA'.live
      exact ⟨es, ck, h⟩
    have hseq := refs_stops_but (G := S.g) 5 (by omega) xs w2.heap.size l2 (.slice fao fn fcap) W4 (by rw [cell_of_heap hc4]; rfl) (by omega) hrd (by omega) hq
    have hown : OwnFrom W4.heap.size (fun (ys : List (RefT S.g)) W => CollAt O w x cap names S nv gb l2 Og w.heap.size ys W) := by
      intro ys W W' row h hg hr
      exact h.kept (B := W4.heap.size) (fun b hb => by have := hOw b hb; omega) (by omega) (by omega) (by omega) hg.size hg.os hg.tape hg.output (fun k hk hl => hg.block k hl (fun e => by have := (hr k e.symm).1; omega))
    clear hrd hq hc4 hst
    refine wpIn_rangeFunc_ownG rfl (by omega) (gf := 75) (lb := #[.pointer (some ⟨w2.heap.size, 0, none⟩)]) rfl trivial (fun _ _ => rfl) hseq (fun h k => h.trans k) (fun W l o o' hl _ _ _ => fun k hk _ => World.putObj_heap_other (by omega)) (Below.refl _ _) (fun _ => rfl)
      (fun ys W => CollAt O w x cap names S nv gb l2 Og w.heap.size ys W) (fun _ _ _ => False) hown (fun _ _ _ _ _ hs _ _ => hs) hst4
      (fun r => { tmps := #[.pointer (some ⟨x, 0, none⟩), .slice fao fn fcap, .pointer (some ⟨w.heap.size, 0, none⟩), undef, .int .i64 0, .int .i64 (r.1 : Int), .pointer (some ⟨x, 0, none⟩), .slice fao fn fcap, .bool true, .bool false, .pointer (some ⟨x, 0, none⟩), .map (some l2), .pointer (some ⟨x, 0, none⟩), .pointer (some ⟨x, 3, none⟩), .slice fao fn fcap, .func (.func 75) #[] #[.pointer (some ⟨w2.heap.size, 0, none⟩)], .int .i64 (r.1 : Int), undef, undef, undef, undef, undef, undef, undef, undef, undef, undef, undef, undef, undef, undef, undef, undef], defers := [] }) ?assign ?body ?done ?stop
    case assign =>
      intro l r W K hK
      simp only [encR]
      gi_wp2
      exact hK
    case body =>
      rintro l pre r W h _
      obtain ⟨x1, x2, W', hrun, ht, hn⟩ := h.next (by omega) (by omega) r
      have HN : Hid _ := hn
      have HT : Hid _ := ht
      clear h hn ht hst4 hseq hown
      gi_wp2
      exact ⟨⟨by rw [HT.out.2]; exact Nat.le_refl _, fun k o hk ho hc => (HT.out.1.block k (Array.getElem?_eq_some_iff.1 ho).1 (by simp; omega)).trans ho⟩, fun k hk hne => by
        by_cases c : k < W.heap.size
        · exact HT.out.1.block k c (by simp; exact hne)
        · have h1 : W.heap.size ≤ k := by omega
          have h2 : W'.heap.size ≤ k := by rw [HT.out.2]; exact h1
          rw [Array.getElem?_eq_none h2, Array.getElem?_eq_none h1], HN.out⟩
    case done =>
      rintro D ys W hD rfl h hK
      obtain ⟨L', hl', hA', hm'⟩ := h.mid HO.out
      obtain ⟨W5, hW5⟩ : ∃ W5, W5 = (W.alloc (.cells #[.map (some l2)] 75)).drew := ⟨_, rfl⟩
      have hb5 : Below W.heap.size W W5 := by rw [hW5]; exact ((Below.refl _ W).alloc (Nat.le_refl _) _).drew
      have hs5 : W5.heap.size = W.heap.size + 1 := by rw [hW5]; show (W.heap.push _).size = _; simp
      have hc5 : W5.heap[W.heap.size]? = some (.cells #[.map (some l2)] 75 (0, 0)) := by rw [hW5]; exact heap_alloc_new W _
      have hA5 := hA'.below hb5
      have hsw := graphSweep_live (bm := W.heap.size) hm' hA5 (by rw [cell_of_heap hc5]; rfl) (by omega) (fun e => by have := hA'.lt _ (hA'.og _ e); omega)
      have hbox := h.box
      have hDl := (Array.getElem?_eq_some_iff.1 hK).1
      have hxl2 : w.heap.size < W.heap.size := (Array.getElem?_eq_some_iff.1 hbox).1
      have b0 : W.cell? ⟨w.heap.size, 0, none⟩ = some (.pointer (some ⟨x, 0, none⟩)) := by rw [cell_of_heap hbox]; rfl
      have b5 : W5.cell? ⟨w.heap.size, 0, none⟩ = some (.pointer (some ⟨x, 0, none⟩)) := (hb5.cell (p := ⟨w.heap.size, 0, none⟩) hxl2).trans b0
      obtain ⟨_, _, g2, g3⟩ := hA'.c
      obtain ⟨_, _, e2, e3⟩ := hA5.c
      have f5 : (W.alloc (.cells #[.map (some l2)] 75)).cell? ⟨w.heap.size, 0, none⟩ = some (.pointer (some ⟨x, 0, none⟩)) := by rw [hW5] at b5; exact b5
      have f2 : (W.alloc (.cells #[.map (some l2)] 75)).cell? ⟨x, 2, none⟩ = some (.pointer (some ⟨gb, 0, none⟩)) := by rw [hW5] at e2; exact e2
      have hfin : ∀ W6, SweepPost Og W5 gb S (LiveXs L') (.returned (.tuple #[])) W6 → W6.heap[D]? = some (.deferred (some [])) ∧ CollPost O w x (copC cap names S L) (ys.map (·.1)) (.returned (.int .i64 0)) (W6.putObj D (.deferred none)) := by
        rintro W6 ⟨_, zs, A, S', h1, h2, h3, h4⟩
        have hDo : ¬ Og D := fun e => by have := HA.out.lt _ (HA.out.og _ e); omega
        have hD6 : W6.heap[D]? = some (.deferred (some [])) := (h4.1.block D (by omega) hDo).trans ((hb5.block D hDl).trans hK)
        refine ⟨hD6, rfl, ?_⟩
        obtain ⟨ho6, O6, Og6, hA6, hg6⟩ := hA5.graphed h4
        obtain ⟨m6, ht6, hn6⟩ := swept_copse hm' h3 h2 h1
        have hlive : ∀ r, liveH L' r → liveH L r := by
          intro r hr
          rcases (hl' r).1 hr with e | e | e
          · subst e; exact HO.out.mid.c0
          · subst e; exact HO.out.mid.c1
          · obtain ⟨y, hy, rfl⟩ := List.mem_map.1 e
            exact HX.out y hy
        have hO6 : ¬ O6 D := by
          intro e
          rcases hg6 D e with (e | e) | e
          · have := hOw D e; omega
          · omega
          · omega
        have hA7 : CopAt O6 (W6.putObj D (.deferred none)) x cap names S' nv gb l2 L' Og6 := hA6.keep (by simp) (fun k hk => World.putObj_heap_other (fun e => hO6 (by rw [← e]; exact hk)))
        have hsz : S'.nums.length ≤ cap := by
          have h1 : S'.nums.length ≤ S.nums.length := List.Nodup.length_le_of_subset S'.nums_nodup (fun i hi => hn6 i hi)
          have := HO.out.size
          omega
        have hoW5 : Only O w W5 := h.only.then_below hb5
        refine ⟨?_, O6, ⟨cap, names, S', nv, gb, l2, L', Og6, collC_is h3.order ht6 hl' hlive, ⟨m6, HO.out.c1, HO.out.c300, hsz⟩, hA7⟩, ?_⟩
        · refine ⟨ho6.os.trans hoW5.os, ho6.tape.trans hoW5.tape, ho6.output.trans hoW5.output, by simp; exact Nat.le_trans hoW5.size ho6.size, fun b hb1 hb2 => ?_⟩
          rw [World.putObj_heap_other (by omega)]
          exact (ho6.block b (Nat.lt_of_lt_of_le hb1 hoW5.size) (fun e => e.elim hb2 (fun e => by omega))).trans (hoW5.block b hb1 hb2)
        · intro b hb
          rcases hg6 b hb with (e | e) | e
          · exact .inl e
          · right; omega
          · right
            have := hoW5.size
            omega
      have hkeys := fun W => mapsKeys_is l2 W
      have hval : ∀ e W6, SweepPost Og W5 gb S (LiveXs L') e W6 → e = .returned (.tuple #[]) := fun e W6 h => h.1
      have HF : Hid _ := hfin
      have HV : Hid _ := hval
      clear hfin hval hA' hm' hA5 hl' h hbox hc5 hb5 hs5 hK hst4 hown hseq HO HA HR HX HFO hOw hDl hxl2 b5 e2 e3
      gi_wp2
      refine wpIn_mono ?_ Calm.le
      gi_region_with (first
        | (refine ⟨trivial, ?_⟩; gi_at_call 89; refine (callsIn_wide.2 (hkeys _)).mono ?_; clear hkeys; rintro e W6 ⟨rfl, rfl⟩)
        | (refine ⟨trivial, ?_⟩; gi_at_call 88; rw [← hW5]; refine (callsIn_wide.2 hsw).mono ?_; clear hsw; rintro e W6 hp; have hv := HV.out _ _ hp; subst hv))
      all_goals
        refine Calm.normal ?_
        obtain ⟨hD6, hpost⟩ := HF.out _ hp
        clear hp b0 g2 g3 f5 f2
        have HP : Hid (CollPost O w x (copC cap names S L) (ys.map (·.1)) (.returned (.int .i64 0)) (W6.putObj D (.deferred none))) := hpost
        clear hpost
        gi_wp2
        refine ⟨by simp, .inl ⟨_, _, rfl, run_takeDeferred hD6, ?_⟩⟩
        refine ⟨_, results_tmp rfl _ _ _, ?_⟩
        exact HP.out
    case stop =>
      rintro D c pre W _ _ h _
      exact h.elim

theorem copseCollect_is {O : Nat → Prop} {w : World} {x : Nat} {C : CopS} (hI : CopI O w x C) (hs : List Nat) (hT : ∀ y ∈ hs, ∃ f, C.T y = some f) (fv : Value) (hr : Reads w.heap.size w fv (hs.map natv)) (hfo : ∀ ad n c, fv = .slice (some ad) n c → ¬ O ad.block) (hlen : hs.length ≤ 2000000) :
    Calls Tryz.prog 71 #[.pointer (some ⟨x, 0, none⟩), fv] w (CollPost O w x C hs) := by
  obtain ⟨cap, names, S, nv, gb, lb, L, Og, rfl, hok, hA⟩ := hI
  have hlv : ∀ y ∈ hs, liveH L y := fun y hy => by
    obtain ⟨f, hf⟩ := hT y hy
    exact (copC_T.1 hf).1
  obtain ⟨xs, hxs⟩ := live_refs (G := S.g) (hs := hs) (fun y hy => ⟨hok.mid.liveOk (hlv y hy), by have := hok.mid.small (hok.mid.liveOk (hlv y hy)); unfold refMax; omega⟩)
  have e : xs.map refCell = hs.map natv := by rw [← hxs, List.map_map]; rfl
  have := copseCollect_at hok hA xs (fun y hy => hlv y.1 (by rw [← hxs]; exact List.mem_map.2 ⟨y, hy, rfl⟩)) fv (by rw [e]; exact hr) hfo (by rw [← List.length_map (f := fun z : RefT S.g => z.1), hxs]; exact hlen)
  rw [hxs] at this
  exact this

end Go.Proofs.YtebfmcafmojlaaaGreatDoor

/-
  graph: Support.
-/
namespace Go.Proofs.YtebfmcafmojlaaaGreatDoor
open Go.RowKit Go.Maps
set_option linter.unusedSimpArgs false
set_option linter.unusedVariables false

/-- A marked node below k asks v. -/
def Asked (S : GrS) (A : List Bool) (k v : Nat) : Prop := ∃ i, i < k ∧ isM A i ∧ ∃ n, S.g.node i = some n ∧ n.v = v

noncomputable def askL (S : GrS) (A : List Bool) (k : Nat) : List Bool := by
  classical exact (List.range S.order.length).map (fun v => decide (Asked S A k v))

theorem askL_len (S : GrS) (A : List Bool) (k : Nat) : (askL S A k).length = S.order.length := by simp [askL]

theorem askL_get (S : GrS) (A : List Bool) (k v : Nat) (hv : v < S.order.length) : (askL S A k).getD v false = true ↔ Asked S A k v := by
  classical
  rw [List.getD_eq_getElem?_getD]
  simp [askL, hv]

theorem askL_zero (S : GrS) (A : List Bool) : askL S A 0 = List.replicate S.order.length false := by
  classical
  apply List.ext_getElem
  · simp [askL]
  · intro i h1 h2
    simp [askL, Asked]

theorem bool_ext {a b : List Bool} (hl : a.length = b.length) (h : ∀ i, i < a.length → (a.getD i false = true ↔ b.getD i false = true)) : a = b := by
  apply List.ext_getElem hl
  intro i h1 h2
  have := h i h1
  simp only [List.getD_eq_getElem?_getD, List.getElem?_eq_getElem h1, List.getElem?_eq_getElem h2, Option.getD_some] at this
  rw [Bool.eq_iff_iff]
  exact this

theorem askL_no (S : GrS) (A : List Bool) (k : Nat) (h : A.getD k false = false) : askL S A (k + 1) = askL S A k := by
  refine bool_ext (by rw [askL_len, askL_len]) ?_
  intro v hv
  rw [askL_len] at hv
  rw [askL_get _ _ _ _ hv, askL_get _ _ _ _ hv]
  constructor
  · rintro ⟨i, hi, hm, hn⟩
    refine ⟨i, ?_, hm, hn⟩
    by_cases e : i = k
    · subst e
      unfold isM at hm
      rw [h] at hm
      cases hm
    · omega
  · rintro ⟨i, hi, r⟩
    exact ⟨i, by omega, r⟩

theorem askL_yes (S : GrS) (A : List Bool) (k : Nat) (h : A.getD k false = true) {n : Nd} (hn : S.g.node k = some n) : askL S A (k + 1) = (askL S A k).set n.v true := by
  refine bool_ext (by rw [List.length_set, askL_len, askL_len]) ?_
  intro v hv
  rw [askL_len] at hv
  rw [askL_get _ _ _ _ hv, List.getD_eq_getElem?_getD, List.getElem?_set, askL_len]
  by_cases e : n.v = v
  · rw [if_pos e, if_pos (by omega)]
    constructor
    · intro _; rfl
    · intro _; exact ⟨k, by omega, h, n, hn, e⟩
  · rw [if_neg e, ← List.getD_eq_getElem?_getD, askL_get _ _ _ _ hv]
    constructor
    · rintro ⟨i, hi, hm, n', hn', hv'⟩
      refine ⟨i, ?_, hm, n', hn', hv'⟩
      by_cases e' : i = k
      · subst e'
        rw [hn] at hn'
        cases hn'
        exact absurd hv' e
      · omega
    · rintro ⟨i, hi, r⟩
      exact ⟨i, by omega, r⟩

noncomputable def supTo (S : GrS) (A : List Bool) (m : Nat) : List Nat := (S.order.take m).filter (fun v => (askL S A A.length).getD v false)

theorem supTo_succ (S : GrS) (A : List Bool) {m : Nat} (hm : m < S.order.length) : supTo S A (m + 1) = supTo S A m ++ (if (askL S A A.length).getD (S.order.getD m 0) false then [S.order.getD m 0] else []) := by
  have hd : S.order.getD m 0 = S.order[m] := by rw [List.getD_eq_getElem?_getD, List.getElem?_eq_getElem hm]; rfl
  rw [hd]
  unfold supTo
  rw [List.take_add_one, List.filter_append, List.getElem?_eq_getElem hm]
  simp only [Option.toList_some]
  rw [List.filter_cons, List.filter_nil]

theorem supTo_len (S : GrS) (A : List Bool) (m : Nat) (hm : S.order.length ≤ 6) : (supTo S A m).length ≤ 6 := by
  have h1 := List.length_filter_le (fun v => (askL S A A.length).getD v false) (S.order.take m)
  rw [List.length_take] at h1
  unfold supTo
  omega

def SupPost (w : World) (S : GrS) (Sx : List (RefT S.g) → Prop) (e : Ending) (w' : World) : Prop := ∃ xs A v, Sx xs ∧ MarkedAll S.g A xs ∧ e = .returned v ∧ w'.ownsRow w.heap.size 3 1 v (supTo S A S.order.length).length ((supTo S A S.order.length).map natv) ∧ Below w.heap.size w w'

set_option maxHeartbeats 1000000 in
set_option maxRecDepth 10000 in
theorem graphSupport_is {O : Nat → Prop} {w : World} {gb : Nat} {S : GrS} (hG : GrIs O w gb S) (k : S.g.Ok) (hlo : ∀ v ∈ S.order, v < S.order.length) {itv : Value} {Sx : List (RefT S.g) → Prop} (hreach : ∀ W, Below w.heap.size w W → Calls Tryz.prog 128 #[.pointer (some ⟨gb, 0, none⟩), itv] W (ReachPost O W gb S Sx)) :
    Calls Tryz.prog 78 #[.pointer (some ⟨gb, 0, none⟩), itv] w (SupPost w S Sx) := by
  obtain ⟨i0, hi, hz0, hz1, hz2⟩ := info_parts Tryz.infoBool
  obtain ⟨j0, hj, gz0, gz1, gz2⟩ := info_parts Tryz.infoIntP
  have hN6 : S.order.length ≤ 6 := by obtain ⟨_, _, _, _, _, _, _, hA⟩ := hG; exact hA.ol
  obtain ⟨W1, hmk, hrow1, hg1⟩ := run_make_full (P := Tryz.prog) w 0 201 4 i0 (.bool false) 1 Tryz.underlying201 hi hz0 hz1 .i64 .i64 S.order.length (by rw [hz2]; omega) (by unfold maxLen; omega) (Nat.zero_le _)
  rw [madeCells_bool] at hrow1
  have hb1 : Below w.heap.size w W1 := (Below.refl _ _).grown hg1 (Nat.le_refl _) (fun k hk => by cases hk)
  obtain ⟨ab, hab⟩ : ∃ ab, ab = w.heap.size := ⟨_, rfl⟩
  rw [← hab] at hmk hrow1
  have habl : ab < W1.heap.size := by
    obtain ⟨cur, hcc⟩ := row_block hrow1 (b := ab) rfl
    exact (Array.getElem?_eq_some_iff.1 hcc).1
  obtain ⟨ov, nv, fv, mb, rb', M, R, hA⟩ := hG
  obtain ⟨c0, c1, c2, c3, c4⟩ := hA.c
  obtain ⟨oao, ocap, eov⟩ := owns_form hA.order.1
  rw [List.length_map] at eov
  subst eov
  have hre := hreach W1 hb1
  -- what is there behind reach
  have hend : ∀ (w2 : World) (xs : List (RefT S.g)) (A : List Bool) (rb : Nat), MarkAt O w2 gb S rb A.length A → W1.heap.size ≤ rb → Below W1.heap.size W1 w2 →
      (∃ nb ncap, w2.cell? ⟨gb, 1, none⟩ = some (.slice (some ⟨nb, 0, none⟩) S.nl.length ncap) ∧ nb ≠ ab ∧ ∀ i n, S.g.node i = some n → i < S.nl.length ∧ w2.cell? ⟨nb, i * 3, none⟩ = some (.int .i64 (n.v : Nat))) ∧ gb ≠ ab ∧ rb ≠ ab ∧ (∀ i, i < A.length → w2.cell? ⟨rb, i, none⟩ = some (.bool (A.getD i false))) ∧ A.length ≤ 100000 ∧ ab < w2.heap.size ∧
      w2.ownsRow 0 4 1 (.slice (some ⟨ab, 0, none⟩) S.order.length S.order.length) S.order.length ((askL S A 0).map Value.bool) := by
    intro w2 xs A rb hM hrb hb2
    obtain ⟨ov2, nv2, fv2, mb2, rb2, M2, R2, hA2⟩ := hM.G
    obtain ⟨nb, ncap, en, hnb, hob, hnode⟩ := hA2.nodeAt
    have hnO : ∀ b, O b → b ≠ ab := fun b hb' e => by have := hA.lt b hb'; omega
    refine ⟨⟨nb, ncap, by rw [hA2.c.2.1, en], hnO nb hob, fun i n hn => ⟨(hnode i n hn).1, (hnode i n hn).2.1⟩⟩, hnO gb hA.self, by omega, fun i hi => hM.cell hi, by rw [hM.len]; exact hA2.nlen, Nat.lt_of_lt_of_le habl hb2.size, ?_⟩
    rw [askL_zero]
    exact owns_below hrow1 hb2 (Nat.le_refl _)
  have hords : ∀ i, i < S.order.length → ∃ ob, oao = some ⟨ob, 0, none⟩ ∧ w.cell? ⟨ob, i, none⟩ = some (.int .i64 (S.order.getD i 0 : Nat)) ∧ ob < w.heap.size := by
    intro i hi
    have hrow := hA.order.1
    rw [List.length_map] at hrow
    rcases hrow.2 with ⟨e, e0⟩ | ⟨g, cp, cur, e, _⟩
    · omega
    · cases e
      refine ⟨g, rfl, ?_, (hrow.lt g rfl).2⟩
      rw [hrow.cellAt i (by omega), List.getElem?_map, List.getD_eq_getElem?_getD, List.getElem?_eq_getElem hi]
      rfl
  have hgl := hA.lt gb hA.self
  have HK : Hid S.g.Ok := k
  have HE : Hid _ := hend
  have HO : Hid _ := hords
  have HB1 : Hid (Below w.heap.size w W1) := hb1
  have HAB : Hid (ab = w.heap.size ∧ gb < w.heap.size) := ⟨hab, hgl⟩
  have HLO : Hid (∀ v ∈ S.order, v < S.order.length) := hlo
  have HC0 : Hid (w.cell? ⟨gb, 0, none⟩ = some (.slice oao S.order.length ocap)) := c0
  obtain ⟨N, hNN⟩ : ∃ N, N = S.order.length := ⟨_, rfl⟩
  clear hend hords hb1 hab habl hg1 hrow1 hA k hlo c1 c2 c3 c4 hgl hreach hi hz0 hz1 hz2
  go_enter Tryz.func78, Tryz.ntmps78
  go_upto_region 3 with (go_at_call 128; refine hre.mono ?_; clear hre; rintro e w2 ⟨xs, A, rb, hS, rfl, hM, hrb, hb2, hall⟩)
  obtain ⟨⟨nb, ncap, cn, hnab, hnode⟩, hgab, hrab, hcA, hA5, hab2, hrow0⟩ := HE.out w2 xs A rb hM hrb hb2
  have hkid : ∀ i, A.getD i false = true → ∃ n, S.g.node i = some n ∧ n.v ∈ S.order := by
    intro i hi
    obtain ⟨n, hn, _⟩ := hall.kids i hi
    exact ⟨n, hn, HK.out.var hn⟩
  have hbw2 : Below w.heap.size w w2 := HB1.out.trans (hb2.mono HB1.out.size)
  have hgb2 : gb < w2.heap.size := Nat.lt_of_lt_of_le HAB.out.2 hbw2.size
  -- the post, behind the second loop
  have hfin : ∀ (w' : World) (v : Value), w'.ownsRow w.heap.size 3 1 v (supTo S A S.order.length).length ((supTo S A S.order.length).map natv) → Below w.heap.size w w' → SupPost w S Sx (.returned v) w' := fun w' v h1 h2 => ⟨xs, A, v, hS, hall, rfl, h1, h2⟩
  have HF : Hid _ := hfin
  have HKD : Hid _ := hkid
  have HCA : Hid _ := hcA
  have HND : Hid _ := hnode
  have HR0 : Hid _ := hrow0
  have HBW : Hid (Below w.heap.size w w2) := hbw2
  have HNE : Hid (nb ≠ ab ∧ gb ≠ ab ∧ rb ≠ ab ∧ gb < w2.heap.size ∧ ab < w2.heap.size) := ⟨hnab, hgab, hrab, hgb2, hab2⟩
  have HCN : Hid (w2.cell? ⟨gb, 1, none⟩ = some (.slice (some ⟨nb, 0, none⟩) S.nl.length ncap)) := cn
  clear hfin hkid hcA hnode hrow0 hbw2 hgb2 hnab hgab hrab hab2 cn hM hrb hb2 hall hS HE HK HB1 hmk
  go_loopw [21] (fun iv wr => ∃ k : Nat, k ≤ A.length ∧ iv = .int .i64 (k : Nat) ∧ Only (· = ab) w2 wr ∧ wr.ownsRow 0 4 1 (.slice (some ⟨ab, 0, none⟩) S.order.length S.order.length) S.order.length ((askL S A k).map Value.bool)) (fun iv _ => A.length - (intOf iv).toNat)
  case atStart => exact ⟨0, Nat.zero_le _, rfl, Only.refl _ _, HR0.out⟩
  case round =>
    obtain ⟨k, hk, rfl, ho, hrow⟩ := hrel
    have hoc : ∀ b o, b ≠ ab → b < w2.heap.size → wr.cell? ⟨b, o, none⟩ = w2.cell? ⟨b, o, none⟩ := fun b o hb hl => World.cell?_of_block (ho.block b hl hb)
    by_cases hlt : k < A.length
    · have hcl := HCA.out k hlt
      have hrbl : rb < w2.heap.size := by
        apply Classical.byContradiction
        intro hn
        have : w2.heap[rb]? = none := Array.getElem?_eq_none (by omega)
        simp [World.cell?, this] at hcl
      have hck := (hoc rb k HNE.out.2.2.1 hrbl).trans hcl
      cases hv : A.getD k false
      · rw [hv] at hck
        have hst := askL_no S A k hv
        have HQ : Hid (Only (· = ab) w2 wr ∧ wr.ownsRow 0 4 1 (.slice (some ⟨ab, 0, none⟩) S.order.length S.order.length) S.order.length ((askL S A (k + 1)).map Value.bool)) := ⟨ho, by rw [hst]; exact hrow⟩
        clear hcl hv hst ho hrow hoc hrbl
        go_wp2_with fail
        exact ⟨⟨k + 1, by omega, congrArg (Value.int .i64) (by omega), HQ.out.1, HQ.out.2⟩, by simp [intOf]; omega⟩
      · rw [hv] at hck
        obtain ⟨n, hn, hno⟩ := HKD.out k hv
        have hvl := HLO.out _ hno
        obtain ⟨hkn, hnv⟩ := HND.out k n hn
        have hnbl : nb < w2.heap.size := by
          apply Classical.byContradiction
          intro hq
          have : w2.heap[nb]? = none := Array.getElem?_eq_none (by omega)
          simp [World.cell?, this] at hnv
        have d0 := (hoc gb 1 HNE.out.2.1 HNE.out.2.2.2.1).trans HCN.out
        have d1 := (hoc nb (k * 3) HNE.out.1 hnbl).trans hnv
        have hst := askL_yes S A k hv hn
        have d2 : wr.frozen? ⟨ab, n.v, none⟩ = false := hrow.frozenAt n.v
        have d3 : ∃ q, wr.cell? ⟨ab, n.v, none⟩ = some q := ⟨_, (hrow.cellAt n.v (by omega)).trans (List.getElem?_eq_getElem (by rw [List.length_map, askL_len]; omega))⟩
        obtain ⟨q, d3⟩ := d3
        obtain ⟨hs1, hs2⟩ := hrow.stored n.v (.bool true)
        have HQ : Hid (Only (· = ab) w2 (wr.setCell ⟨ab, n.v, none⟩ (.bool true)) ∧ (wr.setCell ⟨ab, n.v, none⟩ (.bool true)).ownsRow 0 4 1 (.slice (some ⟨ab, 0, none⟩) S.order.length S.order.length) S.order.length ((askL S A (k + 1)).map Value.bool)) := ⟨ho.setCell (p := ⟨ab, n.v, none⟩) (.inl rfl) _, by rw [hst, List.map_set]; exact hs1⟩
        obtain ⟨V, hV⟩ : ∃ V, V = n.v := ⟨_, rfl⟩
        rw [← hV] at hvl d1 d2 d3 HQ
        have hkl := hkn
        clear hcl hv hst ho hrow hoc hrbl hs1 hs2 hn hno hnv hnbl hV
        go_wp2_with fail
        exact ⟨⟨k + 1, by omega, congrArg (Value.int .i64) (by omega), HQ.out.1, HQ.out.2⟩, by simp [intOf]; omega⟩
    · have hk' : k = A.length := by omega
      subst hk'
      rename World => w3
      have hbw3 : Below w.heap.size w w3 := HBW.out.trans (below_of_only ho (Nat.le_of_eq HAB.out.1.symm) HBW.out.size)
      have e0 := (hbw3.cell (p := ⟨gb, 0, none⟩) HAB.out.2).trans HC0.out
      have hord : ∀ i, i < S.order.length → ∃ ob, oao = some ⟨ob, 0, none⟩ ∧ w3.cell? ⟨ob, i, none⟩ = some (.int .i64 (S.order.getD i 0 : Nat)) ∧ ob < w3.heap.size := by
        intro i hi
        obtain ⟨ob, h1, h2, h3⟩ := HO.out i hi
        exact ⟨ob, h1, (hbw3.cell (p := ⟨ob, i, none⟩) h3).trans h2, Nat.lt_of_lt_of_le h3 hbw3.size⟩
      have hask : ∀ v, v < S.order.length → w3.cell? ⟨ab, v, none⟩ = some (.bool ((askL S A A.length).getD v false)) := by
        intro v hv
        have hl := askL_len S A A.length
        rw [hrow.cellAt v (by omega), List.getElem?_map, List.getD_eq_getElem?_getD, List.getElem?_eq_getElem (by omega)]
        rfl
      have habl : ab < w3.heap.size := (hrow.lt ab rfl).2
      have hmem : ∀ i, i < S.order.length → S.order.getD i 0 < S.order.length := by
        intro i hi
        refine HLO.out _ ?_
        rw [List.getD_eq_getElem?_getD, List.getElem?_eq_getElem hi]
        exact List.getElem_mem hi
      have HB3 : Hid (Below w.heap.size w w3) := hbw3
      have HOR : Hid _ := hord
      have HAS : Hid _ := hask
      have HMM : Hid _ := hmem
      clear hord hask hbw3 hrow ho hoc hmem hlt c0 HCA HKD HND HR0 HBW HNE HCN HO HC0
      go_upto_region 10 with fail
      go_loopw [8, 43] (fun sv iv wq => ∃ m : Nat, m ≤ S.order.length ∧ iv = .int .i64 (m : Nat) ∧ wq.ownsRow w3.heap.size 3 1 sv (supTo S A m).length ((supTo S A m).map natv) ∧ Below w3.heap.size w3 wq) (fun _ iv _ => S.order.length - (intOf iv).toNat)
      case atStart => exact ⟨0, Nat.zero_le _, rfl, by simp [supTo]; exact World.ownsRow_nil _ _ _ _, Below.refl _ _⟩
      case round =>
        obtain ⟨m, hm, rfl, hown, hbq⟩ := hrel
        clear e0
        by_cases hml : m < S.order.length
        · obtain ⟨ob, h1, h2, h3⟩ := HOR.out m hml
          subst h1
          have d1 := (hbq.cell (p := ⟨ob, m, none⟩) h3).trans h2
          have hvl := HMM.out m hml
          have d2 := (hbq.cell (p := ⟨ab, S.order.getD m 0, none⟩) habl).trans (HAS.out _ hvl)
          have hsu := supTo_succ S A hml
          have hsl := supTo_len S A m hN6
          obtain ⟨V, hV⟩ : ∃ V, V = S.order.getD m 0 := ⟨_, rfl⟩
          rw [← hV] at d1 hvl d2 hsu
          clear hV h2 h3
          cases hb : (askL S A A.length).getD V false
          · rw [hb] at d2 hsu
            simp only [Bool.false_eq_true, if_false, List.append_nil] at hsu
            rw [← hsu] at hown
            have HQ : Hid (_ ∧ _) := And.intro hown hbq
            clear hb hsu hown hbq hsl
            go_wp2_with fail
            exact ⟨⟨m + 1, by omega, congrArg (Value.int .i64) (by omega), HQ.out.1, HQ.out.2⟩, by simp [intOf]; omega⟩
          · rw [hb] at d2 hsu
            simp only [if_true] at hsu
            have happ : ∀ (w' : World) (v' : Value) (o : Obj), w'.ownsRow w3.heap.size 3 1 v' ((supTo S A m).length + 1) ((supTo S A m).map natv ++ [natv V]) → Below w3.heap.size w3 w' → w'.ownsRow w3.heap.size 3 1 v' (supTo S A (m + 1)).length ((supTo S A (m + 1)).map natv) ∧ Below w3.heap.size w3 w' := by
              intro w' v' o h1 h2
              refine ⟨?_, h2⟩
              rw [hsu, List.map_append, List.length_append]
              exact h1
            have HA : Hid _ := happ
            obtain ⟨T, hT⟩ : ∃ T, T = supTo S A m := ⟨_, rfl⟩
            rw [← hT] at hown hsl HA
            clear hb hsu happ hT
            go_wp2_with (at_builtin; refine wpList_append_placed rfl (.tmp 51) (.tmp 53) 25 rfl w3.heap.size 3 j0 (.int .i64 0) 1 8 Tryz.underlying25 hj gz0 gz1 gz2 rfl (by decide) _ T.length (T.map natv) rfl (hown.alloc _) _ 1 1 [natv V] rfl rfl ?_ ?_ ?_ ?_ ?_ ?_; exact cell_one_new _ _ _; exact one_cell_nat _; exact le_max5 (by omega); omega; exact Nat.le_trans hbq.size (by simp); intro v' w5 ho hg hp; have hb5 := ((hbq.alloc hbq.size _).grown hg (Nat.le_trans hbq.size (by simp)) (fun k hk => (hown.lt k hk).1)); have HQ : Hid (w5.ownsRow w3.heap.size 3 1 v' (supTo S A (m + 1)).length ((supTo S A (m + 1)).map natv) ∧ Below w3.heap.size w3 w5) := HA.out _ _ (.cells #[] 0) ho hb5; clear ho hg hp hb5 HA)
            exact ⟨⟨m + 1, by omega, congrArg (Value.int .i64) (by omega), HQ.out.1, HQ.out.2⟩, by simp [intOf]; omega⟩
        · have hm' : m = S.order.length := by omega
          subst hm'
          have HQ := HF.out _ _ (ownsRow_base hown HB3.out.size) (HB3.out.trans (hbq.mono HB3.out.size))
          clear hown hbq
          go_wp2_with fail
          go_ret
          exact HQ

end Go.Proofs.YtebfmcafmojlaaaGreatDoor

/-
  graph: on what functions hang: the variables of their nodes.
-/
namespace Go.Proofs.YtebfmcafmojlaaaGreatDoor
open Go.RowKit Go.Maps
set_option linter.unusedSimpArgs false
set_option linter.unusedVariables false

theorem isM_lt {A : List Bool} {i : Nat} (h : isM A i) : i < A.length := by
  unfold isM at h
  apply Nat.lt_of_not_le
  intro hle
  rw [List.getD_eq_getElem?_getD, List.getElem?_eq_none hle] at h
  cases h

theorem asked_down {S : GrS} (k : S.g.Ok) {A : List Bool} {xs : List (RefT S.g)} (h : MarkedAll S.g A xs) {v : Nat} (hv : v ∈ S.g.order) :
    ∀ (d r : Nat), S.g.ok r → S.g.order.length - S.g.lev r ≤ d → (r / 2 = 0 ∨ isM A (r / 2)) → hangs (S.g.tab r) v = true → ∃ i, isM A i ∧ ∃ n, S.g.node i = some n ∧ n.v = v := by
  have hv6 : v < 6 := k.lt6 v hv
  have hidx : S.g.idx v < S.g.order.length := List.idxOf_lt_length_of_mem hv
  intro d
  induction d with
  | zero =>
    intro r hr hd _ hh
    have hle := Gr.lev_le k r
    have : hangs (S.g.tab r) v = false := k.ahead hr hv6 (.inl (by omega))
    rw [this] at hh
    cases hh
  | succ d ih =>
    intro r hr hd hm hh
    rcases hm with h0 | hm
    · have : hangs (S.g.tab r) v = false := k.ahead hr hv6 (.inl (by rw [Gr.lev_const k h0]; exact hidx))
      rw [this] at hh
      cases hh
    · obtain ⟨n, hn, ht, he⟩ := h.kids _ hm
      by_cases e : n.v = v
      · exact ⟨_, hm, n, hn, e⟩
      · have hl := Gr.lev_node hn
        have hnl := k.idx_lt hn
        have hs := k.is hn
        rw [Gr.hangs_tab _ _ hv6, hs] at hh
        have hlt := k.tlev hn
        have hle := k.elev hn
        by_cases h1 : hangs (S.g.tab n.t) v = true
        · exact ih n.t (k.tok hn) (by omega) ht h1
        · by_cases h2 : hangs (S.g.tab n.e) v = true
          · exact ih n.e (k.eok hn) (by omega) he h2
          · exfalso
            have := hangs_iteT n.v v (S.g.tab n.t) (S.g.tab n.e) (k.v6 hn) hv6 (fun q => e q.symm) (by simpa using h1) (by simpa using h2)
            rw [this] at hh
            cases hh

theorem asked_iff {S : GrS} (k : S.g.Ok) {A : List Bool} {xs : List (RefT S.g)} (h : MarkedAll S.g A xs) {v : Nat} (hv : v ∈ S.g.order) : Asked S A A.length v ↔ ∃ x ∈ xs, hangs (S.g.tab x.1) v = true := by
  constructor
  · rintro ⟨i, hi, hm, n, hn, hnv⟩
    have hT := h.least (fun i => ∀ u, u < 6 → hangs (S.g.sem i) u = true → ∃ x ∈ xs, hangs (S.g.tab x.1) u = true) (by
      intro j hj m hmn
      refine ⟨.inr ?_, .inr ?_⟩
      · intro u hu hh
        refine hj u hu ?_
        rw [← Gr.hangs_tab m.t u hu] at hh
        have := k.given_node hmn true
        rw [if_pos rfl] at this
        rw [← this] at hh
        exact hangs_given _ _ _ _ (k.v6 hmn) hu hh
      · intro u hu hh
        refine hj u hu ?_
        rw [← Gr.hangs_tab m.e u hu] at hh
        have := k.given_node hmn false
        rw [if_neg (by simp)] at this
        rw [← this] at hh
        exact hangs_given _ _ _ _ (k.v6 hmn) hu hh) (by
      intro x hx
      refine .inr ?_
      intro u hu hh
      exact ⟨x, hx, by rw [Gr.hangs_tab _ _ hu]; exact hh⟩) i hm
    rw [← hnv]
    exact hT n.v (k.v6 hn) (k.hangs_top hn)
  · rintro ⟨x, hx, hh⟩
    obtain ⟨i, hm, n, hn, e⟩ := asked_down k h hv _ x.1 x.2.1 (Nat.le_refl _) (h.self x hx) hh
    exact ⟨i, isM_lt hm, hm, n, hn, e⟩

/-- On what some functions hang, in the order. -/
def supT (o : List Nat) (fs : List Tab) : List Nat := o.filter (fun v => fs.any (fun f => hangs f v))

theorem sup_is {S : GrS} (k : S.g.Ok) (hlo : ∀ v ∈ S.order, v < S.order.length) {A : List Bool} {xs : List (RefT S.g)} (h : MarkedAll S.g A xs) : supTo S A S.order.length = supT S.order ((xs.map (·.1)).map S.g.tab) := by
  unfold supTo supT
  rw [List.take_of_length_le (Nat.le_refl _)]
  apply List.filter_congr
  intro v hv
  rw [Bool.eq_iff_iff, askL_get _ _ _ _ (hlo v hv), asked_iff k h hv, List.any_eq_true]
  constructor
  · rintro ⟨x, hx, hh⟩
    exact ⟨_, List.mem_map.2 ⟨x.1, List.mem_map.2 ⟨x, hx, rfl⟩, rfl⟩, hh⟩
  · rintro ⟨f, hf, hh⟩
    obtain ⟨r, hr, rfl⟩ := List.mem_map.1 hf
    obtain ⟨x, hx, rfl⟩ := List.mem_map.1 hr
    exact ⟨x, hx, hh⟩

end Go.Proofs.YtebfmcafmojlaaaGreatDoor

/-
  copse: Support.
-/
namespace Go.Proofs.YtebfmcafmojlaaaGreatDoor
open Go.RowKit Go.Maps
set_option linter.unusedSimpArgs false
set_option linter.unusedVariables false

set_option maxHeartbeats 400000 in
set_option maxRecDepth 10000 in
theorem copseSupport_no {O : Nat → Prop} {w : World} {x : Nat} {C : CopS} (hI : CopI O w x C) (h : Int) (hh : h < 0) (hz : i64ok h) :
    Calls Tryz.prog 115 #[.pointer (some ⟨x, 0, none⟩), .int .i64 h] w fun e w' => e = .returned (.tuple #[.slice none 0 0, .int .i64 4]) ∧ CopStep CopI O w x w' C := by
  have hst := fun w' => hI.step (w' := w')
  obtain ⟨cap, names, S, nv, gb, lb, L, Og, rfl, hok, hA⟩ := hI
  have hc := isLive_no hok.mid hA hh hz
  have HS : Hid _ := hst
  clear hst hok hA hh hz
  go_enter Tryz.func115, Tryz.ntmps115
  go_wp2_with (go_at_call 57; refine hc.mono ?_; clear hc; rintro e w' ⟨rfl, hb⟩)
  go_ret2
  exact ⟨rfl, HS.out _ hb⟩

set_option maxRecDepth 100000 in
/-- The graph's Support of one function, out of a box. -/
theorem supOne {O : Nat → Prop} {w w1 : World} {x cap : Nat} {names : List ByteArray} {S : GrS} {nv : Value} {gb lb : Nat} {L : List (Value × Value)} {Og : Nat → Prop} (hok : CopOk cap names S L) (hA : CopAt O w x cap names S nv gb lb L Og) {h : Nat} (hl : liveH L h) (hb : Below w.heap.size w w1) {W2 : World}
    (hW2 : W2 = (w1.alloc (.cells #[.int .i64 (h : Nat)] 3)).alloc (.cells #[.slice (some ⟨w1.heap.size, 0, none⟩) 1 1] 25)) :
    Calls Tryz.prog 78 #[.pointer (some ⟨gb, 0, none⟩), .func (.func 75) #[] #[.pointer (some ⟨w1.heap.size + 1, 0, none⟩)]] W2 fun e w' => ∃ v, e = .returned v ∧ w'.ownsRow w1.heap.size 3 1 v (supT S.order [S.g.tab h]).length ((supT S.order [S.g.tab h]).map natv) ∧ Below w1.heap.size w1 w' := by
  have hlok : S.g.ok h ∧ h < refMax := ⟨hok.mid.liveOk hl, by have := hok.mid.small (hok.mid.liveOk hl); unfold refMax; omega⟩
  have hb1 : Below w1.heap.size w1 (w1.alloc (.cells #[.int .i64 (h : Nat)] 3)) := (Below.refl _ w1).alloc (Nat.le_refl _) _
  have hs1 : (w1.alloc (.cells #[.int .i64 (h : Nat)] 3)).heap.size = w1.heap.size + 1 := by simp
  have hb2 : Below w1.heap.size w1 W2 := by rw [hW2]; exact hb1.alloc hb1.size _
  have hs2 : W2.heap.size = w1.heap.size + 2 := by rw [hW2]; simp
  have hn1 : W2.heap[w1.heap.size]? = some (.cells #[.int .i64 (h : Nat)] 3 (0, 0)) := by
    rw [hW2, Below.heap_alloc _ _ _ (by omega)]
    exact heap_alloc_new w1 _
  have hn2 : W2.heap[w1.heap.size + 1]? = some (.cells #[.slice (some ⟨w1.heap.size, 0, none⟩) 1 1] 25 (0, 0)) := by
    rw [hW2, ← hs1]
    exact heap_alloc_new _ _
  have hlo : ∀ v ∈ S.order, v < S.order.length := by
    intro v hv
    have := (hok.mid.order v).1 hv
    rw [hok.mid.olen]
    exact this
  have hbs := hb.size
  have hreach : ∀ W, Below W2.heap.size W2 W → Calls Tryz.prog 128 #[.pointer (some ⟨gb, 0, none⟩), .func (.func 75) #[] #[.pointer (some ⟨w1.heap.size + 1, 0, none⟩)]] W (ReachPost Og W gb S (· = [⟨h, hlok⟩])) := by
    intro W hbW
    have hbw : Below w.heap.size w W := hb.trans ((hb2.trans (hbW.mono (by omega))).mono hbs)
    have hsW := hbW.size
    have g1 := (hbW.block (w1.heap.size) (by omega)).trans hn1
    have g2 := (hbW.block (w1.heap.size + 1) (by omega)).trans hn2
    have hseq := refs_stops (G := S.g) 5 (by omega) [⟨h, hlok⟩] (w1.heap.size + 1) (.slice (some ⟨w1.heap.size, 0, none⟩) 1 1) W (by rw [cell_of_heap g2]; rfl) (by omega) (by
      refine .inr ⟨w1.heap.size, 0, 1, rfl, by omega, ?_⟩
      intro i hi
      have : i = 0 := by simpa using hi
      subst this
      rw [cell_of_heap g1]
      rfl) (by simp)
    exact graphReach_is (hA.below hbw).graph hok.mid.k (gf := 75) (by intro args w; rfl) hseq (fun h1 h2 => h1.trans h2) (fun W W' _ h => h) (fun W l o o' hl _ _ _ => below_putObj _ W l o' hl)
  refine (graphSupport_is (hA.below (hb.trans (hb2.mono hbs))).graph hok.mid.k hlo hreach).mono ?_
  rintro e w' ⟨xs, A, v, rfl, hm, rfl, hrow, hbw⟩
  rw [sup_is hok.mid.k hlo hm] at hrow
  exact ⟨v, rfl, ownsRow_base hrow (by omega), hb2.trans (hbw.mono (by omega))⟩

set_option maxHeartbeats 1000000 in
set_option maxRecDepth 10000 in
theorem copseSupport_is {O : Nat → Prop} {w : World} {x : Nat} {C : CopS} (hI : CopI O w x C) (h : Nat) (f : Tab) (hf : C.T h = some f) :
    Calls Tryz.prog 115 #[.pointer (some ⟨x, 0, none⟩), .int .i64 h] w fun e w' => ∃ ao cap, e = .returned (.tuple #[.slice ao (supT C.order [f]).length cap, .int .i64 0]) ∧ w'.ownsRow w.heap.size 9 1 (.slice ao (supT C.order [f]).length cap) (supT C.order [f]).length (((supT C.order [f]).map (fun u => C.names.getD u ByteArray.empty)).map Value.string) ∧ Below w.heap.size w w' := by
  obtain ⟨i0, hi, hz0, hz1, hz2⟩ := info_parts Tryz.infoStr
  obtain ⟨cap, names, S, nv, gb, lb, L, Og, rfl, hok, hA⟩ := hI
  obtain ⟨hl, htab⟩ := copC_T.1 hf
  have hc := isLive_yes hok.mid hA hl
  have hC : (copC cap names S L).order = S.order ∧ (copC cap names S L).names = names := ⟨rfl, rfl⟩
  rw [hC.1, hC.2]
  have c12 : ∀ w1, Below w.heap.size w w1 → w1.cell? ⟨x, 1, none⟩ = some nv ∧ w1.cell? ⟨x, 2, none⟩ = some (.pointer (some ⟨gb, 0, none⟩)) := fun w1 hb => ⟨(hA.below hb).c.2.1, (hA.below hb).c.2.2.1⟩
  have hsup : ∀ w1, Below w.heap.size w w1 → ∀ W2, W2 = (w1.alloc (.cells #[.int .i64 (h : Nat)] 3)).alloc (.cells #[.slice (some ⟨w1.heap.size, 0, none⟩) 1 1] 25) → Calls Tryz.prog 78 #[.pointer (some ⟨gb, 0, none⟩), .func (.func 75) #[] #[.pointer (some ⟨w1.heap.size + 1, 0, none⟩)]] W2 fun e w' => ∃ v, e = .returned v ∧ w'.ownsRow w1.heap.size 3 1 v (supT S.order [f]).length ((supT S.order [f]).map natv) ∧ Below w1.heap.size w1 w' := by
    intro w1 hb W2 hW2
    have := supOne hok hA hl hb hW2
    rw [htab] at this
    exact this
  obtain ⟨nao, ncap, env⟩ := owns_form hA.names.1
  rw [List.length_map] at env
  subst env
  have hnm : ∀ u, u ∈ supT S.order [f] → u < names.length ∧ ∃ nb, nao = some ⟨nb, 0, none⟩ ∧ nb < w.heap.size ∧ w.cell? ⟨nb, u, none⟩ = some (.string (names.getD u ByteArray.empty)) := by
    intro u hu
    have hul := (hok.mid.order u).1 (List.mem_filter.1 hu).1
    have hrow := hA.names.1
    rw [List.length_map] at hrow
    rcases hrow.2 with ⟨e, e0⟩ | ⟨g, cp, cur, e, _⟩
    · omega
    · cases e
      refine ⟨hul, g, rfl, (hrow.lt g rfl).2, ?_⟩
      rw [hrow.cellAt u (by omega), List.getElem?_map, List.getD_eq_getElem?_getD, List.getElem?_eq_getElem hul]
      rfl
  have hs6 : (supT S.order [f]).length ≤ 6 := by
    have h1 := List.length_filter_le (fun v => [f].any (fun f => hangs f v)) S.order
    have := hok.mid.olen
    have := hok.mid.n6
    unfold supT
    omega
  have HC : Hid _ := c12
  have HP : Hid (∀ w1, Below w.heap.size w w1 → ∀ W2, W2 = (w1.alloc (.cells #[.int .i64 (h : Nat)] 3)).alloc (.cells #[.slice (some ⟨w1.heap.size, 0, none⟩) 1 1] 25) → Calls Tryz.prog 78 #[.pointer (some ⟨gb, 0, none⟩), .func (.func 75) #[] #[.pointer (some ⟨w1.heap.size + 1, 0, none⟩)]] W2 fun e w' => ∃ v, e = .returned v ∧ w'.ownsRow w1.heap.size 3 1 v (supT S.order [f]).length ((supT S.order [f]).map natv) ∧ Below w1.heap.size w1 w') := hsup
  have HN : Hid _ := hnm
  obtain ⟨V, hV⟩ : ∃ V, V = supT S.order [f] := ⟨_, rfl⟩
  rw [← hV] at HP HN hs6 ⊢
  have hrefs := fun ao n c W => copseRefs_is ao n c W
  clear c12 hsup hnm hV hok hA hf hl htab hC
  go_enter Tryz.func115, Tryz.ntmps115
  go_upto_region 4 with (go_at_call 57; refine hc.mono ?_; clear hc; rintro e w1 ⟨rfl, hb1⟩; have q2 := (HC.out _ hb1).2)
  go_region_held (fun w' => w'.cell? ⟨x, 2, none⟩ = some (.pointer (some ⟨gb, 0, none⟩))) (go_keep) (first
    | (go_at_call 38; refine (hrefs _ _ _ _).mono ?_; clear hrefs; rintro e w2 ⟨rfl, rfl⟩)
    | (go_at_call 78; refine (HP.out _ hb1.drew _ rfl).mono ?_; clear HP; rintro e w3 ⟨v, rfl, hrow, hb3⟩; obtain ⟨vao, vcap, rfl⟩ := owns_form hrow; have q3 := (HC.out _ (hb1.drew.trans (hb3.mono hb1.size))).2))
  all_goals
    have hbw3 : Below w.heap.size w w3 := hb1.drew.trans (hb3.mono hb1.size)
    have q1 := (HC.out _ hbw3).1
    have hx3 : x < w3.heap.size := by
      apply Classical.byContradiction
      intro hq
      have : w3.heap[x]? = none := Array.getElem?_eq_none (by omega)
      simp [World.cell?, this] at q1
    have hvc : ∀ m, m < V.length → ∃ vb, vao = some ⟨vb, 0, none⟩ ∧ vb < w3.heap.size ∧ w3.cell? ⟨vb, m, none⟩ = some (.int .i64 (V.getD m 0 : Nat)) := by
      intro m hm
      rcases hrow.2 with ⟨e, e0⟩ | ⟨g, cp, cur, e, _⟩
      · omega
      · cases e
        refine ⟨g, rfl, (hrow.lt g rfl).2, ?_⟩
        rw [hrow.cellAt m (by omega), List.getElem?_map, List.getD_eq_getElem?_getD, List.getElem?_eq_getElem hm]
        rfl
    have hnc : ∀ m, m < V.length → V.getD m 0 < names.length ∧ ∃ nb, nao = some ⟨nb, 0, none⟩ ∧ nb < w3.heap.size ∧ w3.cell? ⟨nb, V.getD m 0, none⟩ = some (.string (names.getD (V.getD m 0) ByteArray.empty)) := by
      intro m hm
      obtain ⟨h1, nb, h2, h3, h4⟩ := HN.out (V.getD m 0) (by rw [List.getD_eq_getElem?_getD, List.getElem?_eq_getElem hm]; exact List.getElem_mem hm)
      exact ⟨h1, nb, h2, Nat.lt_of_lt_of_le h3 hbw3.size, (hbw3.cell (p := ⟨nb, V.getD m 0, none⟩) h3).trans h4⟩
    have HV : Hid _ := hvc
    have HNC : Hid _ := hnc
    have HQ1 : Hid (w3.cell? ⟨x, 1, none⟩ = some (.slice nao names.length ncap) ∧ x < w3.heap.size) := ⟨q1, hx3⟩
    have HB : Hid (Below w.heap.size w w3) := hbw3
    clear hvc hnc hrow HN HC hbw3 q1 hx3 hb3 hb1 q2 q3
    go_upto_region 5 with fail
    go_loopw [6, 22] (fun sv iv wr => ∃ m : Nat, m ≤ V.length ∧ iv = .int .i64 (m : Nat) ∧ wr.ownsRow w3.heap.size 9 1 sv (V.take m).length (((V.take m).map (fun u => names.getD u ByteArray.empty)).map Value.string) ∧ Below w3.heap.size w3 wr) (fun _ iv _ => V.length - (intOf iv).toNat)
    case atStart => exact ⟨0, Nat.zero_le _, rfl, by simp; exact World.ownsRow_nil _ _ _ _, Below.refl _ _⟩
    case round =>
      obtain ⟨m, hm, rfl, hown, hbq⟩ := hrel
      by_cases hml : m < V.length
      · obtain ⟨vb, h1, h2, h3⟩ := HV.out m hml
        subst h1
        obtain ⟨hul, nb, h4, h5, h6⟩ := HNC.out m hml
        subst h4
        have d1 := (hbq.cell (p := ⟨vb, m, none⟩) h2).trans h3
        have d2 := (hbq.cell (p := ⟨x, 1, none⟩) HQ1.out.2).trans HQ1.out.1
        have d3 := (hbq.cell (p := ⟨nb, V.getD m 0, none⟩) h5).trans h6
        have hsu : V.take (m + 1) = V.take m ++ [V.getD m 0] := by
          rw [List.take_add_one, List.getElem?_eq_getElem hml, List.getD_eq_getElem?_getD, List.getElem?_eq_getElem hml]
          rfl
        have htl : (V.take m).length ≤ 6 := by rw [List.length_take]; omega
        have happ : ∀ (w' : World) (v' : Value), w'.ownsRow w3.heap.size 9 1 v' ((V.take m).length + 1) (((V.take m).map (fun u => names.getD u ByteArray.empty)).map Value.string ++ [Value.string (names.getD (V.getD m 0) ByteArray.empty)]) → w'.ownsRow w3.heap.size 9 1 v' (V.take (m + 1)).length (((V.take (m + 1)).map (fun u => names.getD u ByteArray.empty)).map Value.string) := by
          intro w' v' h
          rw [hsu, List.map_append, List.map_append, List.length_append]
          exact h
        have HA : Hid _ := happ
        obtain ⟨U, hU⟩ : ∃ U, U = V.getD m 0 := ⟨_, rfl⟩
        rw [← hU] at d1 d3 hul HA
        obtain ⟨sN, hsN⟩ : ∃ sN, sN = names.getD U ByteArray.empty := ⟨_, rfl⟩
        rw [← hsN] at d3 HA
        obtain ⟨T, hT⟩ : ∃ T, T = (V.take m).length := ⟨_, rfl⟩
        rw [← hT] at hown htl HA
        obtain ⟨X, hX⟩ : ∃ X, X = ((V.take m).map (fun u => names.getD u ByteArray.empty)).map Value.string := ⟨_, rfl⟩
        rw [← hX] at hown HA
        clear hsu happ hU hsN hT hX h2 h3 h5 h6
        go_wp2_with (at_builtin; refine wpList_append_placed rfl (.tmp 26) (.tmp 34) 39 rfl w3.heap.size 9 i0 (.string ByteArray.empty) 1 16 Tryz.underlying39 hi hz0 hz1 hz2 rfl (by decide) _ T X rfl (hown.alloc _) _ 1 1 [Value.string sN] rfl rfl ?_ ?_ ?_ ?_ ?_ ?_; exact cell_one_new _ _ _; exact one_cell_s _; exact le_max5 (by omega); omega; exact Nat.le_trans hbq.size (by simp); intro v' w5 ho hg hp; have hb5 := ((hbq.alloc hbq.size _).grown hg (Nat.le_trans hbq.size (by simp)) (fun k hk => (hown.lt k hk).1)); have HQ : Hid (w5.ownsRow w3.heap.size 9 1 v' (V.take (m + 1)).length (((V.take (m + 1)).map (fun u => names.getD u ByteArray.empty)).map Value.string) ∧ Below w3.heap.size w3 w5) := ⟨HA.out _ _ ho, hb5⟩; clear ho hg hp hb5 HA)
        exact ⟨⟨m + 1, by omega, congrArg (Value.int .i64) (by omega), HQ.out.1, HQ.out.2⟩, by simp [intOf]; omega⟩
      · have hm' : m = V.length := by omega
        subst hm'
        rw [List.take_of_length_le (Nat.le_refl _)] at hown
        obtain ⟨ao, cp, e⟩ := owns_form hown
        subst e
        have hb' := HB.out.trans (hbq.mono HB.out.size)
        have HQ : Hid (_ ∧ _) := And.intro (ownsRow_base hown HB.out.size) hb'
        clear hown hbq hb'
        go_wp2_with fail
        go_ret2
        exact ⟨_, _, rfl, HQ.out.1, HQ.out.2⟩

end Go.Proofs.YtebfmcafmojlaaaGreatDoor

