/-
  copse.refs, where the body of the range writes one map.
-/
import Derived.Stop.RegionWithIn
import Derived.Test.YtebfmcafmojlaaaT20
import Derived.Test.YtebfmcafmojlaaaT01
namespace Go.Proofs.Ytebfmcafmojlaaa
open Go.RowKit Go.Maps Go.Shelf
set_option linter.unusedSimpArgs false
set_option linter.unusedVariables false
attribute [local go_sem] Oper.semAt_some

/-- Of the blocks below B only q may have turned. -/
def But (q B : Nat) (W W' : World) : Prop := ∀ k, k < B → k ≠ q → W'.heap[k]? = W.heap[k]?

theorem But.refl (q B : Nat) (W : World) : But q B W W := fun _ _ _ => rfl
theorem But.trans {q B : Nat} {W W1 W2 : World} (h : But q B W W1) (k : But q B W1 W2) : But q B W W2 := fun i h1 h2 => (k i h1 h2).trans (h i h1 h2)

theorem cell_same {W W' : World} {b o : Nat} (h : W'.heap[b]? = W.heap[b]?) : W'.cell? ⟨b, o, none⟩ = W.cell? ⟨b, o, none⟩ := by
  unfold World.cell?
  simp only [h]

set_option maxHeartbeats 1000000 in
set_option maxRecDepth 100000 in
theorem refs_stops_but {G : Gr} (n : Nat) (hn : 1 ≤ n) (rs : List (RefT G)) (Bx q : Nat) (fv : Value) (w : World) (hx : w.cell? ⟨Bx, 0, none⟩ = some fv) (hxl : Bx < w.heap.size) (hr : Reads w.heap.size w fv (rs.map refCell)) (hl : rs.length ≤ 1000000000) (hq : ∃ es ck, w.heap[q]? = some (.map es ck)) :
    SeqStopsK Fence.wide n Try.prog 55 #[.pointer (some ⟨Bx, 0, none⟩)] (encR G) (But q w.heap.size) (fun xs => xs = rs) (fun _ => True) rs.length w := fun l J Jx W hW hJ hJx hY h0 => by
  have hx' : W.cell? ⟨Bx, 0, none⟩ = some fv := (hW.cell (p := ⟨Bx, 0, none⟩) hxl).trans hx
  have hr' := hr.below hW (Nat.le_refl _)
  have hq' : ∃ es ck, W.heap[q]? = some (.map es ck) := by
    obtain ⟨es, ck, h⟩ := hq
    exact ⟨es, ck, (hW.block q (Array.getElem?_eq_some_iff.1 h).1).trans h⟩
  clear hr hx hq
  refine callsIn_of_wp Try.func55 rfl trivial ?_ rfl
  simp only [Try.ntmps55, List.size_toArray, List.length_cons, List.length_nil, Nat.reduceAdd, Nat.reduceSub, Array.replicate_succ, Array.replicate_zero, List.push_toArray, List.append_toArray, List.nil_append, List.cons_append]
  rcases hr' with ⟨rfl, hnil⟩ | ⟨b, off, cap, rfl, hlt, hc⟩
  · have hnil' : rs = [] := by simpa using hnil
    subst hnil'
    gi_wp2
    gi_loopw [7] (fun i wr => i = .int .i64 0 ∧ J [] wr) (fun _ _ => 0)
    case atStart => exact ⟨rfl, h0⟩
    case round =>
      obtain ⟨rfl, hJ0⟩ := hrel
      gi_wp2
      go_end0
      exact ⟨⟨_, rfl⟩, .inl ⟨[], rfl, hJ0⟩⟩
  · simp only [List.length_map] at hc hx'
    have hcx : ∀ k (hkl : k < rs.length) (wr : World), But q w.heap.size W wr → wr.cell? ⟨b, off + k, none⟩ = some (.int .i64 ((rs[k]'hkl).1 : Int)) := by
      intro k hkl wr hbw
      have h1 : W.cell? ⟨b, off + k, none⟩ = some (.int .i64 ((rs[k]'hkl).1 : Int)) := by
        rw [hc k (by simpa using hkl)]
        simp [hkl, refCell]
      have hne : b ≠ q := by
        intro e
        subst e
        obtain ⟨es, ck, hl⟩ := hq'
        unfold World.cell? at h1
        simp [hl] at h1
      rw [← h1]
      exact cell_same (hbw b hlt hne)
    have HX : Hid _ := hcx
    clear hc hcx hq'
    gi_wp2
    gi_loopw [7] (fun i wr => ∃ k : Nat, k ≤ rs.length ∧ i = .int .i64 k ∧ J (rs.take k) wr ∧ But q w.heap.size W wr) (fun i _ => rs.length - (intOf i).toNat)
    case atStart => exact ⟨0, Nat.zero_le _, rfl, by simpa using h0, But.refl _ _ _⟩
    case round =>
      obtain ⟨k, hk, rfl, hJs, hbw⟩ := hrel
      by_cases hkl : k < rs.length
      · have hcell := HX.out k hkl wr hbw
        obtain ⟨fn, tmps, assign, body, hy, hR⟩ := hY (rs.take k) (rs[k]'hkl) wr hJs (by simp; omega)
        simp only [encR] at hy
        have htk : rs.take k ++ [rs[k]'hkl] = rs.take (k + 1) := (List.take_succ_eq_append_getElem hkl).symm
        rw [htk] at hR
        have hkl' : (k : Int) < (rs.length : Int) := by omega
        obtain ⟨z, hz⟩ : ∃ z : Nat, z = (rs[k]'hkl).1 := ⟨_, rfl⟩
        rw [← hz] at hcell hy
        have HZ : Hid (z = (rs[k]'hkl).1) := hz
        have HB : Hid (But q w.heap.size W wr) := hbw
        clear hz htk hbw
        gi_wp2
        refine hR.mono ?_
        rintro e W3 (⟨rfl, hJ3, hk3⟩ | ⟨rfl, hJx3⟩)
        · gi_wp2
          go_roundw
          case rel => exact ⟨k + 1, by omega, by go_num, hJ3, HB.out.trans hk3⟩
          case measure => simp [intOf]; omega
        · gi_wp2
          refine bodyPost_ret (results_none rfl _ _ _) rfl ?_
          exact ⟨⟨_, rfl⟩, .inr ⟨_, trivial, hJx3⟩⟩
      · have hk' : k = rs.length := by omega
        subst hk'
        rw [List.take_length] at hJs
        have HB : Hid (But q w.heap.size W wr) := hbw
        clear hbw
        gi_wp2
        go_end0
        exact ⟨⟨_, rfl⟩, .inl ⟨rs, rfl, hJs⟩⟩

end Go.Proofs.Ytebfmcafmojlaaa

/-
  copse: Collect (what it leaves).
-/
namespace Go.Proofs.Ytebfmcafmojlaaa
open Go.RowKit Go.Maps Go.Shelf
set_option linter.unusedSimpArgs false
set_option linter.unusedVariables false

noncomputable def collC (C : CopS) (hs : List Nat) : CopS := { C with T := fun r => by classical exact if r = 0 ∨ r = 1 ∨ r ∈ hs then C.T r else none }

theorem collC_T {C : CopS} {hs : List Nat} {r : Nat} {f : Tab} : (collC C hs).T r = some f ↔ (r = 0 ∨ r = 1 ∨ r ∈ hs) ∧ C.T r = some f := by
  unfold collC
  simp only
  split
  · rename_i h; simp [h]
  · rename_i h; simp [h]

/-- While the handles to be kept are put into the new map. -/
structure CollAt (O : Nat → Prop) (w : World) (x cap : Nat) (names : List ByteArray) (S : GrS) (nv : Value) (gb l2 : Nat) (Og : Nat → Prop) (bx : Nat) {G : Gr} (xs : List (RefT G)) (W : World) : Prop where
  at_ : ∃ L', (∀ p, p ∈ L' ↔ (p = (natv 0, .agg #[]) ∨ p = (natv 1, .agg #[])) ∨ ∃ r ∈ xs, p = (natv r.1, .agg #[])) ∧ CopAt (fun b => O b ∨ b = l2) W x cap names S nv gb l2 L' Og
  only : Only O w W
  box : W.heap[bx]? = some (.cells #[.pointer (some ⟨x, 0, none⟩)] 25 (0, 0))

theorem CollAt.start {O : Nat → Prop} {w w1 w2 w3 : World} {x cap : Nat} {names : List ByteArray} {S : GrS} {nv : Value} {gb lb : Nat} {L L2 : List (Value × Value)} {Og : Nat → Prop} {bx : Nat} {G : Gr} (hA : CopAt O w x cap names S nv gb lb L Og) (hb1 : Below w.heap.size w w1) (hbx : w1.heap[bx]? = some (.cells #[.pointer (some ⟨x, 0, none⟩)] 25 (0, 0))) (hbxl : w.heap.size ≤ bx)
    (hb2 : Below w1.heap.size w1 w2) (hs2 : w1.heap.size < w2.heap.size) (hm : MapIs Try.prog 72 w2 w1.heap.size L2) (hL2 : ∀ p, p ∈ L2 ↔ p = (natv 0, .agg #[]) ∨ p = (natv 1, .agg #[])) (h3 : w3 = w2.setCell ⟨x, 3, none⟩ (.map (some w1.heap.size))) :
    CollAt O w x cap names S nv gb w1.heap.size Og bx ([] : List (RefT G)) w3 := by
  have hs1 := hb1.size
  have hxl := hA.lt x hA.self
  have hbw := hb1.trans (hb2.mono hs1)
  have hA2 := hA.below hbw
  have hblk : ∀ b, b ≠ x → w3.heap[b]? = w2.heap[b]? := fun b hb => by rw [h3, Below.heap_setCell _ _ _ _ hb]
  have hs3 : w3.heap.size = w2.heap.size := by rw [h3]; simp [World.setCell]
  obtain ⟨n1, n2, n3⟩ := hA2.ne
  refine ⟨⟨L2, fun p => by rw [hL2]; simp, ?_⟩, ?_, ?_⟩
  · refine ⟨?_, .inl hA.self, .inr rfl, fun b hb => .inl (hA.og b hb), ?_, ?_, ?_, ?_, hA.nx, fun e => by have := hA.lt _ (hA.og _ e); omega, hA.nn⟩
    · rintro b (hb | hb)
      · have := hA2.lt b hb; omega
      · omega
    · rw [h3, heap_setCell_at hA2.cells]; rfl
    · exact (hA2.names.same (fun b hb => hblk b (fun e => n2 (by rw [← e]; exact hb)))).mono (fun b hb => .inl hb)
    · exact hA2.graph.keep (by rw [hs3]; exact Nat.le_refl _) (fun b hb => hblk b (fun e => hA.nx (by rw [← e]; exact hb)))
    · exact hm.same (hblk _ (by omega))
  · rw [h3]; exact (only_of_below hbw O).setCell (p := ⟨x, 3, none⟩) (.inl hA.self) _
  · have hbl := (Array.getElem?_eq_some_iff.1 hbx).1
    exact (hblk bx (by omega)).trans ((hb2.block bx hbl).trans hbx)

theorem CollAt.next {O : Nat → Prop} {w W : World} {x cap : Nat} {names : List ByteArray} {S : GrS} {nv : Value} {gb l2 : Nat} {Og : Nat → Prop} {bx : Nat} {G : Gr} {xs : List (RefT G)} (h : CollAt O w x cap names S nv gb l2 Og bx xs W) (hl2 : w.heap.size ≤ l2) (hne : bx ≠ l2) (r : RefT G) :
    W.cell? ⟨bx, 0, none⟩ = some (.pointer (some ⟨x, 0, none⟩)) ∧ W.cell? ⟨x, 3, none⟩ = some (.map (some l2)) ∧ ∃ W', (Instr.mapUpdate 60 (.map (some l2)) (.int .i64 (r.1 : Int)) (.agg #[])).run Try.prog W = .ok () W' ∧ MapTurn W W' l2 ∧ CollAt O w x cap names S nv gb l2 Og bx (xs ++ [r]) W' := by
  obtain ⟨⟨L', hL', hA⟩, ho, hb⟩ := h
  refine ⟨by rw [cell_of_heap hb]; rfl, hA.c.2.2.2, ?_⟩
  obtain ⟨W', L3, hrun, h1, h2, h3, _, _⟩ := hA.live.store ref_keyed Try.underlying60 (key := .int .i64 (r.1 : Int)) (val := .agg #[]) (ref_key_ok _ (wf_i64_nat _ r.2.2))
  obtain ⟨hA', ho'⟩ := hA.lived h2 h1
  refine ⟨W', hrun, h2, ⟨L3, ?_, hA'⟩, ?_, ?_⟩
  · intro p
    rw [h3, hL']
    constructor
    · rintro (e | ⟨e | ⟨q, h4, h5⟩, _⟩)
      · exact .inr ⟨r, by simp, e⟩
      · exact .inl e
      · exact .inr ⟨q, List.mem_append_left _ h4, h5⟩
    · intro hp
      by_cases c : p = (.int .i64 (r.1 : Int), .agg #[])
      · exact .inl c
      · right
        have hin : (p = (natv 0, .agg #[]) ∨ p = (natv 1, .agg #[])) ∨ ∃ q ∈ xs, p = (natv q.1, .agg #[]) := by
          rcases hp with e | ⟨q, h4, h5⟩
          · exact .inl e
          · rcases List.mem_append.1 h4 with e | e
            · exact .inr ⟨q, e, h5⟩
            · simp at e
              subst e
              exact absurd h5 c
        refine ⟨hin, fun e => c (Prod.ext e ?_)⟩
        rcases hin with (i1 | i1) | ⟨q, _, i1⟩ <;> rw [i1]
  · refine ⟨ho'.os.trans ho.os, ho'.tape.trans ho.tape, ho'.output.trans ho.output, Nat.le_trans ho.size ho'.size, fun b hb1 hb2 => ?_⟩
    exact (ho'.block b (Nat.lt_of_lt_of_le hb1 ho.size) (fun e => e.elim hb2 (fun e => by omega))).trans (ho.block b hb1 hb2)
  · exact (h2.1.block bx (Array.getElem?_eq_some_iff.1 hb).1 (by simp; exact hne)).trans hb

theorem CollAt.kept {O : Nat → Prop} {w W W' : World} {x cap : Nat} {names : List ByteArray} {S : GrS} {nv : Value} {gb l2 : Nat} {Og : Nat → Prop} {bx : Nat} {G : Gr} {xs : List (RefT G)} (h : CollAt O w x cap names S nv gb l2 Og bx xs W) {B : Nat} (hO : ∀ b, O b → b < B) (h2 : l2 < B) (h3 : bx < B) (hwB : w.heap.size ≤ B) (hs : W.heap.size ≤ W'.heap.size) (hos : W'.os = W.os) (htp : W'.tape = W.tape) (hout : W'.output = W.output)
    (hk : ∀ k, k < B → k < W.heap.size → W'.heap[k]? = W.heap[k]?) : CollAt O w x cap names S nv gb l2 Og bx xs W' := by
  obtain ⟨⟨L', hL', hA⟩, ho, hb⟩ := h
  refine ⟨⟨L', hL', hA.keep hs (fun k hk' => hk k (hk'.elim (hO k) (fun e => by omega)) (hA.lt k hk'))⟩, ?_, ?_⟩
  · exact ⟨hos.trans ho.os, htp.trans ho.tape, hout.trans ho.output, Nat.le_trans ho.size hs, fun b hb1 hb2 => (hk b (by omega) (Nat.lt_of_lt_of_le hb1 ho.size)).trans (ho.block b hb1 hb2)⟩
  · exact (hk bx h3 (Array.getElem?_eq_some_iff.1 hb).1).trans hb

/-- All are in: what the Sweep needs, and what it leaves. -/
theorem CollAt.mid {O : Nat → Prop} {w W : World} {x cap : Nat} {names : List ByteArray} {S : GrS} {nv : Value} {gb l2 : Nat} {Og : Nat → Prop} {bx : Nat} {L : List (Value × Value)} {xs : List (RefT S.g)} (h : CollAt O w x cap names S nv gb l2 Og bx xs W) (hok : CopOk cap names S L) :
    ∃ L', (∀ r, liveH L' r ↔ r = 0 ∨ r = 1 ∨ r ∈ xs.map (·.1)) ∧ CopAt (fun b => O b ∨ b = l2) W x cap names S nv gb l2 L' Og ∧ CopMid names S L' (liveH L) := by
  obtain ⟨⟨L', hL', hA⟩, ho, hb⟩ := h
  have hl : ∀ r, liveH L' r ↔ r = 0 ∨ r = 1 ∨ r ∈ xs.map (·.1) := by
    intro r
    unfold liveH
    rw [hL']
    constructor
    · rintro ((e | e) | ⟨q, h1, e⟩)
      · exact .inl (natv_inj (congrArg Prod.fst e))
      · exact .inr (.inl (natv_inj (congrArg Prod.fst e)))
      · exact .inr (.inr (List.mem_map.2 ⟨q, h1, (natv_inj (congrArg Prod.fst e)).symm⟩))
    · rintro (e | e | e)
      · subst e; exact .inl (.inl rfl)
      · subst e; exact .inl (.inr rfl)
      · obtain ⟨q, h1, h2⟩ := List.mem_map.1 e
        exact .inr ⟨q, h1, by rw [h2]⟩
  refine ⟨L', hl, hA, ⟨hok.mid.k, hok.mid.full, ?_, (hl 0).2 (.inl rfl), (hl 1).2 (.inr (.inl rfl)), hok.mid.order, hok.mid.olen, hok.mid.n6, fun r hr => hok.mid.liveOk hr, ?_, hok.mid.nlen⟩⟩
  · intro p hp
    rcases (hL' p).1 hp with (e | e) | ⟨q, _, e⟩
    · exact ⟨0, e, .inl rfl⟩
    · exact ⟨1, e, .inl rfl⟩
    · exact ⟨q.1, e, q.2.1⟩
  · intro i hi
    exact (hok.mid.reach i hi).mono (fun r hr => .inr (hr.resolve_right id))

theorem collC_is {cap : Nat} {names : List ByteArray} {S S' : GrS} {L L' : List (Value × Value)} {hs : List Nat} (ho : S'.order = S.order) (ht : ∀ r, S'.g.tab r = S.g.tab r) (hl : ∀ r, liveH L' r ↔ r = 0 ∨ r = 1 ∨ r ∈ hs) (hlive : ∀ r, liveH L' r → liveH L r) : collC (copC cap names S L) hs = copC cap names S' L' := by
  have hT : (collC (copC cap names S L) hs).T = (copC cap names S' L').T := copT_ext (fun r f => by
    rw [collC_T, copC_T, copC_T, ← hl, ht]
    constructor
    · rintro ⟨h1, h2, h3⟩; exact ⟨h1, h3⟩
    · rintro ⟨h1, h2⟩; exact ⟨h1, hlive r h1, h2⟩)
  show CopS.mk _ _ _ _ = CopS.mk _ _ _ _
  simp only [CopS.mk.injEq]
  exact ⟨rfl, rfl, ho.symm, hT⟩

end Go.Proofs.Ytebfmcafmojlaaa

/-
  copse: Collect.
-/
namespace Go.Proofs.Ytebfmcafmojlaaa
open Go.RowKit Go.Maps Go.Shelf
set_option linter.unusedSimpArgs false
set_option linter.unusedVariables false
attribute [local go_sem] Oper.semAt_some

def CollPost (O : Nat → Prop) (w : World) (x : Nat) (C : CopS) (hs : List Nat) (e : Ending) (w' : World) : Prop := e = .returned (.int .i64 0) ∧ CopStep CopI O w x w' (collC C hs)

/-- For a region that is shown not to panic. -/
def Calm (Q : Exit → Act → World → Prop) : Exit → Act → World → Prop
  | .normal, a, w => Q .normal a w
  | _, _, _ => False
theorem Calm.le {Q : Exit → Act → World → Prop} : ∀ e a w, Calm Q e a w → Q e a w := by
  intro e a w h
  cases e <;> first | exact h | exact h.elim
theorem Calm.normal {Q : Exit → Act → World → Prop} {a : Act} {w : World} (h : Q .normal a w) : Calm Q .normal a w := h

set_option maxHeartbeats 2000000 in
set_option maxRecDepth 100000 in
theorem copseCollect_at {O : Nat → Prop} {w : World} {x cap : Nat} {names : List ByteArray} {S : GrS} {nv : Value} {gb lb : Nat} {L : List (Value × Value)} {Og : Nat → Prop} (hok : CopOk cap names S L) (hA : CopAt O w x cap names S nv gb lb L Og) (xs : List (RefT S.g)) (hxl : ∀ y ∈ xs, liveH L y.1) (fv : Value) (hr : Reads w.heap.size w fv (xs.map refCell)) (hfo : ∀ ad n c, fv = .slice (some ad) n c → ¬ O ad.block) (hlen : xs.length ≤ 2000000) :
    Calls Try.prog 21 #[.pointer (some ⟨x, 0, none⟩), fv] w (CollPost O w x (copC cap names S L) (xs.map (·.1))) := by
  obtain ⟨fao, fn, fcap, efv⟩ : ∃ ao n cap, fv = .slice ao n cap := by
    rcases hr with ⟨h, _⟩ | ⟨b, off, cap, h, _⟩
    · exact ⟨none, 0, 0, h⟩
    · exact ⟨_, _, _, h⟩
  obtain ⟨W0, hW0⟩ : ∃ W0, W0 = w.alloc (.cells #[.pointer (some ⟨x, 0, none⟩)] 25) := ⟨_, rfl⟩
  have hb0 : Below w.heap.size w W0 := by rw [hW0]; exact (Below.refl _ w).alloc (Nat.le_refl _) _
  have hs0 : W0.heap.size = w.heap.size + 1 := by rw [hW0]; simp
  have hc0 : W0.heap[w.heap.size]? = some (.cells #[.pointer (some ⟨x, 0, none⟩)] 25 (0, 0)) := by rw [hW0]; exact heap_alloc_new w _
  have q0 : W0.cell? ⟨w.heap.size, 0, none⟩ = some (.pointer (some ⟨x, 0, none⟩)) := by rw [cell_of_heap hc0]; rfl
  have hA0 := hA.below hb0
  have hare0 := copseAreLive_is (zs := xs.map (fun n => (n.1 : Int))) (fv := fv) hA0.c.2.2.2 (hA0.lt x hA0.self) hA0.live hok.mid.agg (by
    rw [List.map_map]
    exact (hr.below hb0 (Nat.le_refl _)).mono hb0.size) (by
    intro z hz
    obtain ⟨y, hy, rfl⟩ := List.mem_map.1 hz
    have := hok.mid.small (hok.mid.liveOk (hxl y hy))
    unfold i64ok
    omega) (by simp; omega)
  have hare : Calls Try.prog 32 #[.pointer (some ⟨x, 0, none⟩), fv] W0 fun e w' => e = .returned (.bool true) ∧ Below W0.heap.size W0 w' := by
    refine hare0.mono ?_
    rintro e w' ⟨b, rfl, h1, h2⟩
    rw [h1.2 (fun z hz => by
      obtain ⟨y, hy, rfl⟩ := List.mem_map.1 hz
      exact hxl y hy)]
    exact ⟨rfl, h2⟩
  clear hare0
  have hstart : ∀ w1 w2 : World, Below W0.heap.size W0 w1 → LiveCPost w1.drew (.returned (.map (some w1.heap.size))) w2 → (w1.drew.cell? ⟨w.heap.size, 0, none⟩ = some (.pointer (some ⟨x, 0, none⟩)) ∧ w2.cell? ⟨w.heap.size, 0, none⟩ = some (.pointer (some ⟨x, 0, none⟩)) ∧ w2.cell? ⟨x, 3, none⟩ = some (.map (some lb)) ∧ w2.frozen? ⟨x, 3, none⟩ = false) ∧
      CollAt O w x cap names S nv gb w1.heap.size Og w.heap.size ([] : List (RefT S.g)) (w2.setCell ⟨x, 3, none⟩ (.map (some w1.heap.size))) ∧ w.heap.size < w1.heap.size ∧ w1.heap.size < w2.heap.size := by
    intro w1 w2 hb1 hp
    obtain ⟨_, L2, hb2, hs2, hm2, hL2⟩ := hp
    have hb1d : Below W0.heap.size W0 w1.drew := hb1.drew
    have hbx : w1.drew.heap[w.heap.size]? = _ := (hb1d.block _ (by omega)).trans hc0
    have hbx2 : w2.heap[w.heap.size]? = _ := (hb2.block _ (Array.getElem?_eq_some_iff.1 hbx).1).trans hbx
    have hbw : Below w.heap.size w w1.drew := hb0.trans (hb1d.mono hb0.size)
    have hA2 := hA.below (hbw.trans (hb2.mono hbw.size))
    have h1s := hb1.size
    refine ⟨⟨by rw [cell_of_heap hbx]; rfl, by rw [cell_of_heap hbx2]; rfl, hA2.c.2.2.2, frozen_of_heap hA2.cells⟩, ?_, by omega, hs2⟩
    have := CollAt.start (w1 := w1.drew) (G := S.g) hA hbw hbx (Nat.le_refl _) hb2 hs2 hm2 hL2 rfl
    exact this
  have hlc := fun W => liveConstants_is W
  have hrefs := fun W => copseRefs_is fao fn fcap W
  subst efv
  have HS : Hid _ := hstart
  have HO : Hid (CopOk cap names S L) := hok
  have HA : Hid (CopAt O w x cap names S nv gb lb L Og) := hA
  have HR : Hid (Reads w.heap.size w (.slice fao fn fcap) (xs.map refCell)) := hr
  have HX : Hid (∀ y ∈ xs, liveH L y.1) := hxl
  have HFO : Hid (∀ ad n c, Value.slice fao fn fcap = .slice (some ad) n c → ¬ O ad.block) := hfo
  clear hfo
  clear hstart hok hA hr hxl hA0 hc0 hb0
  refine (callsIn_wide (n := 6)).1 ?_
  refine callsIn_of_wp_marks Try.func21 rfl trivial ?_ rfl
  simp only [Try.ntmps21, List.size_toArray, List.length_cons, List.length_nil, Nat.reduceAdd, Nat.reduceSub, Array.replicate_succ, Array.replicate_zero, List.push_toArray, List.append_toArray, List.nil_append, List.cons_append]
  gi_wp2_with (rw [← hW0]; refine ⟨trivial, ?_⟩; gi_at_call 32; refine (callsIn_wide.2 hare).mono ?_; clear hare; rintro e w1 ⟨rfl, hb1⟩)
  have q1 : w1.cell? ⟨w.heap.size, 0, none⟩ = some (.pointer (some ⟨x, 0, none⟩)) := (hb1.cell (p := ⟨w.heap.size, 0, none⟩) (by show w.heap.size < _; omega)).trans q0
  clear q0
  refine wpIn_mono ?_ Calm.le
  gi_region_with (refine ⟨trivial, ?_⟩; gi_at_call 37; refine (callsIn_wide.2 (hlc _)).mono ?_; clear hlc; rintro e w2 hp; have hv := hp.1; subst hv; obtain ⟨⟨s1, s2, s3, s4⟩, hst, hl1, hl2⟩ := HS.out _ _ hb1 hp; clear hp)
  all_goals
    refine Calm.normal ?_
    clear s1 s2 s3 s4 q1
    gi_wp2_with (refine ⟨trivial, ?_⟩; gi_at_call 34; refine (callsIn_wide.2 (hrefs _)).mono ?_; clear hrefs; rintro e w3 ⟨rfl, rfl⟩)
    obtain ⟨l2, hl2'⟩ : ∃ l2, l2 = w1.heap.size := ⟨_, rfl⟩
    rw [← hl2'] at hst hl1 hl2
    obtain ⟨W3, hW3⟩ : ∃ W3, W3 = w2.setCell ⟨x, 3, none⟩ (.map (some l2)) := ⟨_, rfl⟩
    rw [← hl2', ← hW3]
    rw [← hW3] at hst
    have hs3 : W3.heap.size = w2.heap.size := by rw [hW3]; simp [World.setCell]
    clear hW3 HS hW0 hs0 hb1 hl2'
    obtain ⟨W4, hW4⟩ : ∃ W4, W4 = W3.alloc (.cells #[.slice fao fn fcap] 22) := ⟨_, rfl⟩
    rw [← hW4]
    have hb4 : Below W3.heap.size W3 W4 := by rw [hW4]; exact (Below.refl _ W3).alloc (Nat.le_refl _) _
    have hs4 : W4.heap.size = w2.heap.size + 1 := by rw [hW4]; simp [hs3]
    have hc4 : W4.heap[w2.heap.size]? = some (.cells #[.slice fao fn fcap] 22 (0, 0)) := by rw [hW4, ← hs3]; exact heap_alloc_new W3 _
    clear hW4
    have hOw : ∀ b, O b → b < w.heap.size := HA.out.lt
    have hst4 : CollAt O w x cap names S nv gb l2 Og w.heap.size ([] : List (RefT S.g)) W4 := hst.kept (B := W3.heap.size) (fun b hb => by have := hOw b hb; omega) (by omega) (by omega) (by omega) hb4.size hb4.os hb4.tape hb4.output (fun k hk _ => hb4.block k hk)
    have hrd : Reads W4.heap.size W4 (.slice fao fn fcap) (xs.map refCell) := by
      have h0 := HR.out
      rcases h0 with ⟨h1, h2⟩ | ⟨b, off, cap', h1, h2, h3⟩
      · exact .inl ⟨h1, h2⟩
      · refine .inr ⟨b, off, cap', h1, by omega, fun i hi => ?_⟩
        rw [← h3 i hi]
        exact cell_same (hst4.only.block b h2 (HFO.out _ _ _ h1))
    have hq : ∃ es ck, W4.heap[l2]? = some (.map es ck) := by
      obtain ⟨⟨L', _, hA'⟩, _, _⟩ := hst4
      obtain ⟨es, ck, h, _⟩ := hA'.live
      exact ⟨es, ck, h⟩
    have hseq := refs_stops_but (G := S.g) 5 (by omega) xs w2.heap.size l2 (.slice fao fn fcap) W4 (by rw [cell_of_heap hc4]; rfl) (by omega) hrd (by omega) hq
    have hown : OwnFrom W4.heap.size (fun (ys : List (RefT S.g)) W => CollAt O w x cap names S nv gb l2 Og w.heap.size ys W) := by
      intro ys W W' row h hg hr
      exact h.kept (B := W4.heap.size) (fun b hb => by have := hOw b hb; omega) (by omega) (by omega) (by omega) hg.size hg.os hg.tape hg.output (fun k hk hl => hg.block k hl (fun e => by have := (hr k e.symm).1; omega))
    clear hrd hq hc4 hst
    refine wpIn_rangeFunc_ownG rfl (by omega) (gf := 55) (lb := #[.pointer (some ⟨w2.heap.size, 0, none⟩)]) rfl trivial (fun _ _ => rfl) hseq (fun h k => h.trans k) (fun W l o o' hl _ _ _ => fun k hk _ => World.putObj_heap_other (by omega)) (Below.refl _ _) (fun _ => rfl)
      (fun ys W => CollAt O w x cap names S nv gb l2 Og w.heap.size ys W) (fun _ _ _ => False) hown (fun _ _ _ _ _ hs _ _ => hs) hst4
      (fun r => { tmps := #[.pointer (some ⟨x, 0, none⟩), .slice fao fn fcap, .pointer (some ⟨w.heap.size, 0, none⟩), undef, .int .i64 0, .int .i64 (r.1 : Int), .pointer (some ⟨x, 0, none⟩), .slice fao fn fcap, .bool true, .bool false, .pointer (some ⟨x, 0, none⟩), .map (some l2), .pointer (some ⟨x, 0, none⟩), .pointer (some ⟨x, 3, none⟩), .slice fao fn fcap, .func (.func 55) #[] #[.pointer (some ⟨w2.heap.size, 0, none⟩)], .int .i64 (r.1 : Int), undef, undef, undef, undef, undef, undef, undef, undef, undef, undef, undef, undef, undef, undef, undef, undef], defers := [] }) ?assign ?body ?done ?stop
    case assign =>
      intro l r W K hK
      simp only [encR]
      gi_wp2
      exact hK
    case body =>
      rintro l pre r W h _
      obtain ⟨x1, x2, W', hrun, ht, hn⟩ := h.next (by omega) (by omega) r
      have HN : Hid _ := hn
      have HT : Hid _ := ht
      clear h hn ht hst4 hseq hown
      gi_wp2
      exact ⟨⟨by rw [HT.out.2]; exact Nat.le_refl _, fun k o hk ho hc => (HT.out.1.block k (Array.getElem?_eq_some_iff.1 ho).1 (by simp; omega)).trans ho⟩, fun k hk hne => by
        by_cases c : k < W.heap.size
        · exact HT.out.1.block k c (by simp; exact hne)
        · have h1 : W.heap.size ≤ k := by omega
          have h2 : W'.heap.size ≤ k := by rw [HT.out.2]; exact h1
          rw [Array.getElem?_eq_none h2, Array.getElem?_eq_none h1], HN.out⟩
    case done =>
      rintro D ys W hD rfl h hK
      obtain ⟨L', hl', hA', hm'⟩ := h.mid HO.out
      obtain ⟨W5, hW5⟩ : ∃ W5, W5 = (W.alloc (.cells #[.map (some l2)] 60)).drew := ⟨_, rfl⟩
      have hb5 : Below W.heap.size W W5 := by rw [hW5]; exact ((Below.refl _ W).alloc (Nat.le_refl _) _).drew
      have hs5 : W5.heap.size = W.heap.size + 1 := by rw [hW5]; show (W.heap.push _).size = _; simp
      have hc5 : W5.heap[W.heap.size]? = some (.cells #[.map (some l2)] 60 (0, 0)) := by rw [hW5]; exact heap_alloc_new W _
      have hA5 := hA'.below hb5
      have hsw := graphSweep_live (bm := W.heap.size) hm' hA5 (by rw [cell_of_heap hc5]; rfl) (by omega) (fun e => by have := hA'.lt _ (hA'.og _ e); omega)
      have hbox := h.box
      have hDl := (Array.getElem?_eq_some_iff.1 hK).1
      have hxl2 : w.heap.size < W.heap.size := (Array.getElem?_eq_some_iff.1 hbox).1
      have b0 : W.cell? ⟨w.heap.size, 0, none⟩ = some (.pointer (some ⟨x, 0, none⟩)) := by rw [cell_of_heap hbox]; rfl
      have b5 : W5.cell? ⟨w.heap.size, 0, none⟩ = some (.pointer (some ⟨x, 0, none⟩)) := (hb5.cell (p := ⟨w.heap.size, 0, none⟩) hxl2).trans b0
      obtain ⟨_, _, g2, g3⟩ := hA'.c
      obtain ⟨_, _, e2, e3⟩ := hA5.c
      have f5 : (W.alloc (.cells #[.map (some l2)] 60)).cell? ⟨w.heap.size, 0, none⟩ = some (.pointer (some ⟨x, 0, none⟩)) := by rw [hW5] at b5; exact b5
      have f2 : (W.alloc (.cells #[.map (some l2)] 60)).cell? ⟨x, 2, none⟩ = some (.pointer (some ⟨gb, 0, none⟩)) := by rw [hW5] at e2; exact e2
      have hfin : ∀ W6, SweepPost Og W5 gb S (LiveXs L') (.returned (.tuple #[])) W6 → W6.heap[D]? = some (.deferred (some [])) ∧ CollPost O w x (copC cap names S L) (ys.map (·.1)) (.returned (.int .i64 0)) (W6.putObj D (.deferred none)) := by
        rintro W6 ⟨_, zs, A, S', h1, h2, h3, h4⟩
        have hDo : ¬ Og D := fun e => by have := HA.out.lt _ (HA.out.og _ e); omega
        have hD6 : W6.heap[D]? = some (.deferred (some [])) := (h4.1.block D (by omega) hDo).trans ((hb5.block D hDl).trans hK)
        refine ⟨hD6, rfl, ?_⟩
        obtain ⟨ho6, O6, Og6, hA6, hg6⟩ := hA5.graphed h4
        obtain ⟨m6, ht6, hn6⟩ := swept_copse hm' h3 h2 h1
        have hlive : ∀ r, liveH L' r → liveH L r := by
          intro r hr
          rcases (hl' r).1 hr with e | e | e
          · subst e; exact HO.out.mid.c0
          · subst e; exact HO.out.mid.c1
          · obtain ⟨y, hy, rfl⟩ := List.mem_map.1 e
            exact HX.out y hy
        have hO6 : ¬ O6 D := by
          intro e
          rcases hg6 D e with (e | e) | e
          · have := hOw D e; omega
          · omega
          · omega
        have hA7 : CopAt O6 (W6.putObj D (.deferred none)) x cap names S' nv gb l2 L' Og6 := hA6.keep (by simp) (fun k hk => World.putObj_heap_other (fun e => hO6 (by rw [← e]; exact hk)))
        have hsz : S'.nums.length ≤ cap := by
          have h1 : S'.nums.length ≤ S.nums.length := List.Nodup.length_le_of_subset S'.nums_nodup (fun i hi => hn6 i hi)
          have := HO.out.size
          omega
        have hoW5 : Only O w W5 := h.only.then_below hb5
        refine ⟨?_, O6, ⟨cap, names, S', nv, gb, l2, L', Og6, collC_is h3.order ht6 hl' hlive, ⟨m6, HO.out.c1, HO.out.c300, hsz⟩, hA7⟩, ?_⟩
        · refine ⟨ho6.os.trans hoW5.os, ho6.tape.trans hoW5.tape, ho6.output.trans hoW5.output, by simp; exact Nat.le_trans hoW5.size ho6.size, fun b hb1 hb2 => ?_⟩
          rw [World.putObj_heap_other (by omega)]
          exact (ho6.block b (Nat.lt_of_lt_of_le hb1 hoW5.size) (fun e => e.elim hb2 (fun e => by omega))).trans (hoW5.block b hb1 hb2)
        · intro b hb
          rcases hg6 b hb with (e | e) | e
          · exact .inl e
          · right; omega
          · right
            have := hoW5.size
            omega
      have hkeys := fun W => mapsKeys_is l2 W
      have hval : ∀ e W6, SweepPost Og W5 gb S (LiveXs L') e W6 → e = .returned (.tuple #[]) := fun e W6 h => h.1
      have HF : Hid _ := hfin
      have HV : Hid _ := hval
      clear hfin hval hA' hm' hA5 hl' h hbox hc5 hb5 hs5 hK hst4 hown hseq HO HA HR HX HFO hOw hDl hxl2 b5 e2 e3
      gi_wp2
      refine wpIn_mono ?_ Calm.le
      gi_region_with (first
        | (refine ⟨trivial, ?_⟩; gi_at_call 39; refine (callsIn_wide.2 (hkeys _)).mono ?_; clear hkeys; rintro e W6 ⟨rfl, rfl⟩)
        | (refine ⟨trivial, ?_⟩; gi_at_call 38; rw [← hW5]; refine (callsIn_wide.2 hsw).mono ?_; clear hsw; rintro e W6 hp; have hv := HV.out _ _ hp; subst hv))
      all_goals
        refine Calm.normal ?_
        obtain ⟨hD6, hpost⟩ := HF.out _ hp
        clear hp b0 g2 g3 f5 f2
        have HP : Hid (CollPost O w x (copC cap names S L) (ys.map (·.1)) (.returned (.int .i64 0)) (W6.putObj D (.deferred none))) := hpost
        clear hpost
        gi_wp2
        refine ⟨by simp, .inl ⟨_, _, rfl, run_takeDeferred hD6, ?_⟩⟩
        refine ⟨_, results_tmp rfl _ _ _, ?_⟩
        exact HP.out
    case stop =>
      rintro D c pre W _ _ h _
      exact h.elim

theorem copseCollect_is {O : Nat → Prop} {w : World} {x : Nat} {C : CopS} (hI : CopI O w x C) (hs : List Nat) (hT : ∀ y ∈ hs, ∃ f, C.T y = some f) (fv : Value) (hr : Reads w.heap.size w fv (hs.map natv)) (hfo : ∀ ad n c, fv = .slice (some ad) n c → ¬ O ad.block) (hlen : hs.length ≤ 2000000) :
    Calls Try.prog 21 #[.pointer (some ⟨x, 0, none⟩), fv] w (CollPost O w x C hs) := by
  obtain ⟨cap, names, S, nv, gb, lb, L, Og, rfl, hok, hA⟩ := hI
  have hlv : ∀ y ∈ hs, liveH L y := fun y hy => by
    obtain ⟨f, hf⟩ := hT y hy
    exact (copC_T.1 hf).1
  obtain ⟨xs, hxs⟩ := live_refs (G := S.g) (hs := hs) (fun y hy => ⟨hok.mid.liveOk (hlv y hy), by have := hok.mid.small (hok.mid.liveOk (hlv y hy)); unfold refMax; omega⟩)
  have e : xs.map refCell = hs.map natv := by rw [← hxs, List.map_map]; rfl
  have := copseCollect_at hok hA xs (fun y hy => hlv y.1 (by rw [← hxs]; exact List.mem_map.2 ⟨y, hy, rfl⟩)) fv (by rw [e]; exact hr) hfo (by rw [← List.length_map (f := fun z : RefT S.g => z.1), hxs]; exact hlen)
  rw [hxs] at this
  exact this

end Go.Proofs.Ytebfmcafmojlaaa

/-
  copsekeep: pick, letter; a Wood in memory.
-/
namespace Go.Proofs.Ytebfmcafmojlaaa
open Go.RowKit Go.Maps
set_option linter.unusedSimpArgs false
set_option linter.unusedVariables false

theorem keepPick (c : Int) (n : Nat) (w : World) (hc : i64ok c) (hn : 1 ≤ n) (hn2 : n ≤ 100) :
    Calls Try.prog 8 #[.int .i64 c, .int .i64 (n : Int)] w fun e w' => ∃ k : Nat, k < n ∧ e = .returned (.int .i64 (k : Nat)) ∧ w' = w := by
  unfold i64ok at hc
  obtain ⟨h1, h2⟩ := hc
  have hnI : (1 : Int) ≤ (n : Int) := by omega
  by_cases h0 : c < 0
  · obtain ⟨k, hk⟩ : ∃ k : Nat, (k : Int) = (-(c + 1)) % (n : Int) := ⟨((-(c + 1)) % (n : Int)).toNat, Int.toNat_of_nonneg (Int.emod_nonneg _ (by omega))⟩
    have hlt : k < n := by have := Int.emod_lt_of_pos (-(c + 1)) (by omega : (0 : Int) < n); omega
    go_enter Try.func8, Try.ntmps8
    go_wp2
    go_ret
    exact ⟨k, hlt, retI (by rw [hk, ← Int.neg_tmod]; exact Int.tmod_eq_emod_of_nonneg (by omega)), rfl⟩
  · obtain ⟨k, hk⟩ : ∃ k : Nat, (k : Int) = c % (n : Int) := ⟨(c % (n : Int)).toNat, Int.toNat_of_nonneg (Int.emod_nonneg _ (by omega))⟩
    have hlt : k < n := by have := Int.emod_lt_of_pos c (by omega : (0 : Int) < n); omega
    go_enter Try.func8, Try.ntmps8
    go_wp2
    go_ret
    exact ⟨k, hlt, retI (by rw [hk]; try rfl), rfl⟩

/-- A variable's name. -/
def letS (i : Nat) : ByteArray := ⟨#[UInt8.ofNat (97 + i)]⟩

theorem keepLetter (i : Nat) (h : i < 6) (w : World) : Calls Try.prog 18 #[.int .i64 (i : Int)] w fun e w' => e = .returned (.string (letS i)) ∧ w' = w := by
  have : i = 0 ∨ i = 1 ∨ i = 2 ∨ i = 3 ∨ i = 4 ∨ i = 5 := by omega
  rcases this with rfl | rfl | rfl | rfl | rfl | rfl
  all_goals
    go_enter Try.func18, Try.ntmps18
    go_wp2
    go_ret
    exact ⟨rfl, rfl⟩

end Go.Proofs.Ytebfmcafmojlaaa

/-
  copsekeep: a Wood in memory.
-/
namespace Go.Proofs.Ytebfmcafmojlaaa
open Go.RowKit Go.Maps
set_option linter.unusedSimpArgs false
set_option linter.unusedVariables false

def woodCells (x : Nat) (vars nums : List Nat) (sv : Value) : List Value := [.pointer (some ⟨x, 0, none⟩)] ++ (vars.map natv ++ (nums.map natv ++ [sv, .bool true]))

structure WoodAt (O : Nat → Prop) (w : World) (wb x : Nat) (C : CopS) (vars nums stay : List Nat) (sv : Value) (Oc : Nat → Prop) : Prop where
  lt : ∀ b, O b → b < w.heap.size
  self : O wb
  oc : ∀ b, Oc b → O b
  cells : w.heap[wb]? = some (.cells (woodCells x vars nums sv).toArray 28 (0, 0))
  vl : vars.length = 6
  nl : nums.length = 6
  cop : CopI Oc w x C
  stay : Row O w 3 sv (stay.map natv)
  nw : ¬ Oc wb
  ns : ∀ b, sv.ownBlock = some b → ¬ Oc b

theorem CopI.small {O : Nat → Prop} {w : World} {x : Nat} {C : CopS} (hI : CopI O w x C) {h : Nat} {f : Tab} (hf : C.T h = some f) : h < 1001 := by
  obtain ⟨cap, names, S, nv, gb, lb, L, Og, rfl, hok, hA⟩ := hI
  exact hok.mid.small (hok.mid.liveOk (copC_T.1 hf).1)

theorem CopI.lists {O : Nat → Prop} {w : World} {x : Nat} {C : CopS} (hI : CopI O w x C) : ∃ Lt, Lists C Lt := by
  obtain ⟨cap, names, S, nv, gb, lb, L, Og, rfl, hok, hA⟩ := hI
  classical
  refine ⟨((List.range 1001).filter (fun r => decide (liveH L r))).map S.g.tab, ?_⟩
  intro f
  constructor
  · rintro ⟨h, hf⟩
    left
    obtain ⟨h1, h2⟩ := copC_T.1 hf
    rw [List.mem_map]
    exact ⟨h, List.mem_filter.2 ⟨List.mem_range.2 (hok.mid.small (hok.mid.liveOk h1)), by simpa using h1⟩, h2⟩
  · rintro (h | h | h)
    · obtain ⟨r, h1, h2⟩ := List.mem_map.1 h
      exact ⟨r, copC_T.2 ⟨by simpa using (List.mem_filter.1 h1).2, h2⟩⟩
    · subst h; exact ⟨1, copC_T.2 ⟨hok.mid.c1, hok.mid.k.tab1⟩⟩
    · subst h; exact ⟨0, copC_T.2 ⟨hok.mid.c0, hok.mid.k.tab0⟩⟩

theorem wood_get (x : Nat) (vars nums : List Nat) (sv : Value) (vl : vars.length = 6) (nl : nums.length = 6) :
    (woodCells x vars nums sv)[0]? = some (.pointer (some ⟨x, 0, none⟩)) ∧ (∀ i, i < 6 → (woodCells x vars nums sv)[1 + i]? = some (.int .i64 (vars.getD i 0 : Nat))) ∧ (∀ i, i < 6 → (woodCells x vars nums sv)[7 + i]? = some (.int .i64 (nums.getD i 0 : Nat))) ∧ (woodCells x vars nums sv)[13]? = some sv ∧ (woodCells x vars nums sv)[14]? = some (.bool true) ∧ (woodCells x vars nums sv).length = 15 := by
  match vars, vl with
  | [a, b, c, d, e, f], _ =>
    match nums, nl with
    | [a', b', c', d', e', f'], _ =>
      refine ⟨rfl, ?_, ?_, rfl, rfl, rfl⟩
      · intro i hi
        have : i = 0 ∨ i = 1 ∨ i = 2 ∨ i = 3 ∨ i = 4 ∨ i = 5 := by omega
        rcases this with rfl | rfl | rfl | rfl | rfl | rfl <;> rfl
      · intro i hi
        have : i = 0 ∨ i = 1 ∨ i = 2 ∨ i = 3 ∨ i = 4 ∨ i = 5 := by omega
        rcases this with rfl | rfl | rfl | rfl | rfl | rfl <;> rfl

theorem WoodAt.c {O : Nat → Prop} {w : World} {wb x : Nat} {C : CopS} {vars nums stay : List Nat} {sv : Value} {Oc : Nat → Prop} (h : WoodAt O w wb x C vars nums stay sv Oc) :
    w.cell? ⟨wb, 0, none⟩ = some (.pointer (some ⟨x, 0, none⟩)) ∧ (∀ i, i < 6 → w.cell? ⟨wb, 1 + i, none⟩ = some (.int .i64 (vars.getD i 0 : Nat))) ∧ (∀ i, i < 6 → w.cell? ⟨wb, 7 + i, none⟩ = some (.int .i64 (nums.getD i 0 : Nat))) ∧ w.cell? ⟨wb, 13, none⟩ = some sv ∧ w.cell? ⟨wb, 14, none⟩ = some (.bool true) ∧ ∀ o, w.frozen? ⟨wb, o, none⟩ = false := by
  obtain ⟨a, b, c, d, e, _⟩ := wood_get x vars nums sv h.vl h.nl
  have hh : ∀ o, w.cell? ⟨wb, o, none⟩ = (woodCells x vars nums sv)[o]? := fun o => by rw [cell_of_heap h.cells]; simp
  exact ⟨by rw [hh, a], fun i hi => by rw [hh, b i hi], fun i hi => by rw [hh, c i hi], by rw [hh, d], by rw [hh, e], fun o => frozen_of_heap h.cells⟩

theorem WoodAt.ne {O : Nat → Prop} {w : World} {wb x : Nat} {C : CopS} {vars nums stay : List Nat} {sv : Value} {Oc : Nat → Prop} (h : WoodAt O w wb x C vars nums stay sv Oc) : sv.ownBlock ≠ some wb := by
  intro e
  obtain ⟨cur, hc⟩ := row_block h.stay.1 e
  rw [h.cells] at hc
  simp at hc

theorem WoodAt.keep {O : Nat → Prop} {w w' : World} {wb x : Nat} {C : CopS} {vars nums stay : List Nat} {sv : Value} {Oc : Nat → Prop} (h : WoodAt O w wb x C vars nums stay sv Oc) (hs : w.heap.size ≤ w'.heap.size) (hb : ∀ k, O k → w'.heap[k]? = w.heap[k]?) : WoodAt O w' wb x C vars nums stay sv Oc :=
  { h with
    lt := fun b hb => Nat.lt_of_lt_of_le (h.lt b hb) hs
    cells := (hb wb h.self).trans h.cells
    cop := h.cop.keep hs (fun k hk => hb k (h.oc k hk))
    stay := h.stay.same (fun k hk => hb k (h.stay.2 k hk)) }

theorem WoodAt.below {O : Nat → Prop} {w w' : World} {wb x : Nat} {C : CopS} {vars nums stay : List Nat} {sv : Value} {Oc : Nat → Prop} (h : WoodAt O w wb x C vars nums stay sv Oc) (hb : Below w.heap.size w w') : WoodAt O w' wb x C vars nums stay sv Oc :=
  h.keep hb.size (fun k hk => hb.block k (h.lt k hk))

/-- The copse has gone on. -/
theorem WoodAt.copped {O : Nat → Prop} {w w' : World} {wb x : Nat} {C C' : CopS} {vars nums stay : List Nat} {sv : Value} {Oc : Nat → Prop} (h : WoodAt O w wb x C vars nums stay sv Oc) (hst : CopStep CopI Oc w x w' C') :
    Only O w w' ∧ ∃ O' Oc', WoodAt O' w' wb x C' vars nums stay sv Oc' ∧ Grows w O O' := by
  obtain ⟨ho, Oc', hC, hg⟩ := hst
  have hwl := h.lt wb h.self
  have hn : ∀ b, b < w.heap.size → ¬ Oc b → ¬ Oc' b := fun b hb h1 h2 => by
    rcases hg b h2 with e | e
    · exact h1 e
    · omega
  have hblk : ∀ b, b < w.heap.size → ¬ Oc b → w'.heap[b]? = w.heap[b]? := fun b hb h1 => ho.block b hb h1
  refine ⟨ho.mono h.oc, fun b => O b ∨ Oc' b, Oc', ?_, ?_⟩
  · refine ⟨?_, .inl h.self, fun b hb => .inr hb, (hblk wb hwl h.nw).trans h.cells, h.vl, h.nl, hC, ?_, hn wb hwl h.nw, fun b hb => hn b (h.lt b (h.stay.2 b hb)) (h.ns b hb)⟩
    · rintro b (hb | hb)
      · exact Nat.lt_of_lt_of_le (h.lt b hb) ho.size
      · exact hC.lt b hb
    · exact (h.stay.same (fun b hb => hblk b (h.lt b (h.stay.2 b hb)) (h.ns b hb))).mono (fun b hb => .inl hb)
  · rintro b (hb | hb)
    · exact .inl hb
    · rcases hg b hb with e | e
      · exact .inl (h.oc b e)
      · exact .inr e

theorem array_set_same {a : Array Value} {i : Nat} {v : Value} (h : a[i]? = some v) : a.setIfInBounds i v = a := by
  apply Array.ext_getElem?
  intro j
  rw [Array.getElem?_setIfInBounds]
  split
  · rename_i e
    subst e
    split
    · exact h.symm
    · rename_i hn
      rw [Array.getElem?_eq_none (by omega)] at h
      cases h
  · rfl

/-- 'w.ok = true', where it is. -/
theorem WoodAt.okay {O : Nat → Prop} {w : World} {wb x : Nat} {C : CopS} {vars nums stay : List Nat} {sv : Value} {Oc : Nat → Prop} (h : WoodAt O w wb x C vars nums stay sv Oc) : WoodAt O (w.setCell ⟨wb, 14, none⟩ (.bool true)) wb x C vars nums stay sv Oc ∧ Only O w (w.setCell ⟨wb, 14, none⟩ (.bool true)) := by
  have hw : (w.setCell ⟨wb, 14, none⟩ (.bool true)).heap[wb]? = w.heap[wb]? := by
    rw [heap_setCell_at h.cells, h.cells, array_set_same]
    obtain ⟨a, b, c, d, e, _⟩ := wood_get x vars nums sv h.vl h.nl
    simpa using e
  refine ⟨h.keep (by simp [World.setCell]) (fun k hk => ?_), (Only.refl O w).setCell (p := ⟨wb, 14, none⟩) (.inl h.self) _⟩
  by_cases e : k = wb
  · subst e; exact hw
  · exact Below.heap_setCell _ _ _ _ e

structure WoodOk (C : CopS) (vars nums stay : List Nat) (K : Nat) : Prop where
  vT : ∀ i, i < 6 → C.T (vars.getD i 0) = some (mask (nums.getD i 0))
  n6 : ∀ i, i < 6 → nums.getD i 0 < 6
  ninj : ∀ i j, i < 6 → j < 6 → nums.getD i 0 = nums.getD j 0 → i = j
  cap : C.cap = 300
  order : C.order = o6
  nmlen : C.names.length = 6
  names : ∀ i, i < 6 → C.names.findIdx? (fun y => y.toList == (letS i).toList) = some (nums.getD i 0)
  st : ∀ h ∈ stay, ∃ f, C.T h = some f
  few : ∃ F : List Tab, F.length ≤ K ∧ ∀ h f, C.T h = some f → FewOf F f

def WoodI (O : Nat → Prop) (w : World) (wb : Nat) (C : CopS) (vars nums stay : List Nat) (K : Nat) : Prop := ∃ x sv Oc, WoodAt O w wb x C vars nums stay sv Oc ∧ WoodOk C vars nums stay K
def WStep (O : Nat → Prop) (w : World) (wb : Nat) (w' : World) (C' : CopS) (vars nums stay : List Nat) (K : Nat) : Prop := Only O w w' ∧ ∃ O', WoodI O' w' wb C' vars nums stay K ∧ Grows w O O'

def TExt (C C' : CopS) : Prop := ∀ h f, C.T h = some f → C'.T h = some f

/-- A handle of the function t is told. -/
def TellP (O : Nat → Prop) (w : World) (wb : Nat) (C : CopS) (vars nums stay : List Nat) (K : Nat) (t : Tab) (e : Ending) (w' : World) : Prop :=
  ∃ r : Nat, e = .returned (.int .i64 (r : Nat)) ∧ ∃ C', TExt C C' ∧ C'.T r = some t ∧ w'.cell? ⟨wb, 0, none⟩ = w.cell? ⟨wb, 0, none⟩ ∧ WStep O w wb w' C' vars nums stay K

theorem few_room {C : CopS} {vars nums stay : List Nat} {K : Nat} (h : WoodOk C vars nums stay K) (hK : K ≤ 18) {Lt : List Tab} (hL : Lists C Lt) (t : Tab) : ¬ fullC C Lt t := by
  unfold fullC
  rw [h.cap, h.order]
  obtain ⟨F, hF, hf⟩ := h.few
  have := all_le (F ++ [t]) (withT Lt [t]) (by
    intro f hf'
    rw [withT_one] at hf'
    rcases hf' with e | e
    · obtain ⟨r, hr⟩ := (hL f).2 (.inl e)
      rcases hf r f hr with a | a | a
      · exact .inl a
      · exact .inr (.inl (List.mem_append_left _ a))
      · exact .inr (.inr a)
    · subst e; exact .inr (.inl (by simp)))
  rw [List.length_append] at this
  simp only [List.length_cons, List.length_nil] at this
  omega

/-- A call of the copse that tells a function. -/
theorem told_wood {O : Nat → Prop} {w w1 : World} {wb x : Nat} {C : CopS} {vars nums stay : List Nat} {sv : Value} {Oc : Nat → Prop} {K : Nat} {Lt : List Tab} {t : Tab} {e : Ending} (hA : WoodAt O w wb x C vars nums stay sv Oc) (hok : WoodOk C vars nums stay K) (hK : K ≤ 18) (hL : Lists C Lt) (hp : PostTell CopI Oc w x C (fullC C Lt t) (toldC C t) t e w1) :
    ∃ r : Nat, e = .returned (.tuple #[.int .i64 (r : Nat), .int .i64 0]) ∧ w1.cell? ⟨wb, 14, none⟩ = some (.bool true) ∧ w1.frozen? ⟨wb, 14, none⟩ = false ∧ w1.cell? ⟨wb, 0, none⟩ = some (.pointer (some ⟨x, 0, none⟩)) ∧ TellP O w wb C vars nums stay (K + 1) t (.returned (.int .i64 (r : Nat))) (w1.setCell ⟨wb, 14, none⟩ (.bool true)) := by
  rcases hp with ⟨h1, _⟩ | ⟨_, r, hm, hf, rfl, hst⟩
  · exact absurd h1 (few_room hok hK hL t)
  · obtain ⟨ho, O', Oc', hA', hg⟩ := hA.copped hst
    obtain ⟨hA2, ho2⟩ := hA'.okay
    have hext : TExt C (toldC C t r) := by
      intro h f hh
      show updT C.T r t h = some f
      unfold updT
      split
      · rename_i e; subst e; rw [hf f hh]
      · exact hh
    refine ⟨r, rfl, hA'.c.2.2.2.2.1, hA'.c.2.2.2.2.2 14, hA'.c.1, r, rfl, toldC C t r, hext, ?_, hA2.c.1.trans hA.c.1.symm, ho.trans ho2 hg, O', ⟨x, sv, Oc', hA2, ?_⟩, hg⟩
    · show updT C.T r t r = some t
      simp [updT]
    · refine ⟨fun i hi => hext _ _ (hok.vT i hi), hok.n6, hok.ninj, hok.cap, hok.order, hok.nmlen, hok.names, fun h hh => ?_, ?_⟩
      · obtain ⟨f, hf'⟩ := hok.st h hh
        exact ⟨f, hext h f hf'⟩
      · obtain ⟨F, hF, hf'⟩ := hok.few
        refine ⟨F ++ [t], by simp; omega, ?_⟩
        intro h f hh
        have hh' : updT C.T r t h = some f := hh
        unfold updT at hh'
        split at hh'
        · cases hh'
          exact .inr (.inl (by simp))
        · rcases hf' h f hh' with a | a | a
          · exact .inl a
          · exact .inr (.inl (List.mem_append_left _ a))
          · exact .inr (.inr a)

end Go.Proofs.Ytebfmcafmojlaaa

/-
  copsekeep: Wood.ite, not, and, or, given.
-/
namespace Go.Proofs.Ytebfmcafmojlaaa
open Go.RowKit Go.Maps
set_option linter.unusedSimpArgs false
set_option linter.unusedVariables false

theorem WStep.after {O : Nat → Prop} {w w1 w2 : World} {wb : Nat} {C : CopS} {vars nums stay : List Nat} {K : Nat} (h : WStep O w1 wb w2 C vars nums stay K) (hb : Below w.heap.size w w1) : WStep O w wb w2 C vars nums stay K := by
  obtain ⟨ho, O', hI, hg⟩ := h
  exact ⟨below_then_only hb ho, O', hI, fun b hb' => (hg b hb').imp id (fun e => Nat.le_trans hb.size e)⟩

theorem TellP.after {O : Nat → Prop} {w w1 w2 : World} {wb : Nat} {C : CopS} {vars nums stay : List Nat} {K : Nat} {t : Tab} {e : Ending} (h : TellP O w1 wb C vars nums stay K t e w2) (hb : Below w.heap.size w w1) (hw : wb < w.heap.size) : TellP O w wb C vars nums stay K t e w2 := by
  obtain ⟨r, h1, C', h2, h3, hc, h4⟩ := h
  exact ⟨r, h1, C', h2, h3, hc.trans (hb.cell (p := ⟨wb, 0, none⟩) hw), h4.after hb⟩

set_option maxHeartbeats 400000 in
set_option maxRecDepth 10000 in
theorem woodIte {O : Nat → Prop} {w : World} {wb : Nat} {C : CopS} {vars nums stay : List Nat} {K : Nat} (hI : WoodI O w wb C vars nums stay K) (hK : K ≤ 18) (a b c : Nat) (f g h : Tab) (hf : C.T a = some f) (hg : C.T b = some g) (hh : C.T c = some h) :
    Calls Try.prog 12 #[.pointer (some ⟨wb, 0, none⟩), .int .i64 a, .int .i64 b, .int .i64 c] w (TellP O w wb C vars nums stay (K + 1) (iteT f g h)) := by
  obtain ⟨x, sv, Oc, hA, hok⟩ := hI
  obtain ⟨Lt, hL⟩ := hA.cop.lists
  have c0 := hA.c.1
  have hc := (copseIte_is hA.cop Lt hL a b c f g h hf hg hh).mono (fun e w1 hp => told_wood hA hok hK hL hp)
  clear hL hA hok hK hf hg hh
  go_enter Try.func12, Try.ntmps12
  go_wp2_with (go_at_call 25; refine hc.mono ?_; clear hc; rintro e w1 ⟨r, rfl, q1, q2, q3, hp⟩)
  go_ret
  exact hp

set_option maxHeartbeats 400000 in
set_option maxRecDepth 10000 in
theorem woodNot {O : Nat → Prop} {w : World} {wb : Nat} {C : CopS} {vars nums stay : List Nat} {K : Nat} (hI : WoodI O w wb C vars nums stay K) (hK : K ≤ 18) (a : Nat) (f : Tab) (hf : C.T a = some f) :
    Calls Try.prog 9 #[.pointer (some ⟨wb, 0, none⟩), .int .i64 a] w (TellP O w wb C vars nums stay (K + 1) (~~~ f)) := by
  obtain ⟨x, sv, Oc, hA, hok⟩ := hI
  obtain ⟨Lt, hL⟩ := hA.cop.lists
  have c0 := hA.c.1
  have hc := (copseNot_is hA.cop Lt hL a f hf).mono (fun e w1 hp => told_wood hA hok hK hL hp)
  clear hL hA hok hK hf
  go_enter Try.func9, Try.ntmps9
  go_wp2_with (go_at_call 26; refine hc.mono ?_; clear hc; rintro e w1 ⟨r, rfl, q1, q2, q3, hp⟩)
  go_ret
  exact hp

def andT (f g : Tab) : Tab := iteT f g 0
def orT (f g : Tab) : Tab := iteT f onesT g

theorem TellP.val {O : Nat → Prop} {w : World} {wb : Nat} {C : CopS} {vars nums stay : List Nat} {K : Nat} {t : Tab} {e : Ending} {w' : World} (h : TellP O w wb C vars nums stay K t e w') : ∃ r : Nat, e = .returned (.int .i64 (r : Nat)) ∧ TellP O w wb C vars nums stay K t (.returned (.int .i64 (r : Nat))) w' := by
  obtain ⟨r, rfl, h'⟩ := h
  exact ⟨r, rfl, r, rfl, h'⟩

theorem WoodI.consts {O : Nat → Prop} {w : World} {wb : Nat} {C : CopS} {vars nums stay : List Nat} {K : Nat} (hI : WoodI O w wb C vars nums stay K) : C.T 1 = some 0 ∧ C.T 0 = some onesT := by
  obtain ⟨x, sv, Oc, hA, hok⟩ := hI
  exact hA.cop.consts

theorem WoodI.c {O : Nat → Prop} {w : World} {wb : Nat} {C : CopS} {vars nums stay : List Nat} {K : Nat} (hI : WoodI O w wb C vars nums stay K) : ∃ x, w.cell? ⟨wb, 0, none⟩ = some (.pointer (some ⟨x, 0, none⟩)) := by
  obtain ⟨x, sv, Oc, hA, hok⟩ := hI
  exact ⟨x, hA.c.1⟩

set_option maxHeartbeats 400000 in
set_option maxRecDepth 10000 in
theorem woodAnd {O : Nat → Prop} {w : World} {wb : Nat} {C : CopS} {vars nums stay : List Nat} {K : Nat} (hI : WoodI O w wb C vars nums stay K) (hK : K ≤ 18) (a b : Nat) (f g : Tab) (hf : C.T a = some f) (hg : C.T b = some g) :
    Calls Try.prog 7 #[.pointer (some ⟨wb, 0, none⟩), .int .i64 a, .int .i64 b] w (TellP O w wb C vars nums stay (K + 1) (andT f g)) := by
  have hc := (woodIte hI hK a b 1 f g 0 hf hg hI.consts.1).mono (fun e w1 hp => hp.val)
  have hk := fun x => copseConst_is x false w
  obtain ⟨x, c0⟩ := hI.c
  unfold andT
  clear hI hK hf hg
  go_enter Try.func7, Try.ntmps7
  go_wp2_with (first
    | (go_at_call 14; refine (hk _).mono ?_; clear hk; rintro e w1 ⟨rfl, hq⟩; replace hq := hq.symm; subst hq)
    | (go_at_call 12; refine hc.mono ?_; clear hc; rintro e w1 ⟨r, rfl, hp⟩))
  go_ret
  exact hp

set_option maxHeartbeats 400000 in
set_option maxRecDepth 10000 in
theorem woodOr {O : Nat → Prop} {w : World} {wb : Nat} {C : CopS} {vars nums stay : List Nat} {K : Nat} (hI : WoodI O w wb C vars nums stay K) (hK : K ≤ 18) (a b : Nat) (f g : Tab) (hf : C.T a = some f) (hg : C.T b = some g) :
    Calls Try.prog 10 #[.pointer (some ⟨wb, 0, none⟩), .int .i64 a, .int .i64 b] w (TellP O w wb C vars nums stay (K + 1) (orT f g)) := by
  have hc := (woodIte hI hK a 0 b f onesT g hf hI.consts.2 hg).mono (fun e w1 hp => hp.val)
  have hk := fun x => copseConst_is x true w
  obtain ⟨x, c0⟩ := hI.c
  unfold orT
  clear hI hK hf hg
  go_enter Try.func10, Try.ntmps10
  go_wp2_with (first
    | (go_at_call 14; refine (hk _).mono ?_; clear hk; rintro e w1 ⟨rfl, hq⟩; replace hq := hq.symm; subst hq)
    | (go_at_call 12; refine hc.mono ?_; clear hc; rintro e w1 ⟨r, rfl, hp⟩))
  go_ret
  exact hp

set_option maxHeartbeats 400000 in
set_option maxRecDepth 10000 in
theorem woodGiven {O : Nat → Prop} {w : World} {wb : Nat} {C : CopS} {vars nums stay : List Nat} {K : Nat} (hI : WoodI O w wb C vars nums stay K) (hK : K ≤ 18) (a : Nat) (f : Tab) (hf : C.T a = some f) (i : Nat) (hi : i < 6) (b : Bool) :
    Calls Try.prog 13 #[.pointer (some ⟨wb, 0, none⟩), .int .i64 a, .int .i64 i, .bool b] w (TellP O w wb C vars nums stay (K + 1) (given f (nums.getD i 0) b)) := by
  obtain ⟨x, sv, Oc, hA, hok⟩ := hI
  obtain ⟨Lt, hL⟩ := hA.cop.lists
  have c0 := hA.c.1
  have hc : ∀ w1, Below w.heap.size w w1 → Calls Try.prog 27 #[.pointer (some ⟨x, 0, none⟩), .int .i64 a, .string (letS i), .bool b] w1 fun e w2 => ∃ r : Nat, e = .returned (.tuple #[.int .i64 (r : Nat), .int .i64 0]) ∧ w2.cell? ⟨wb, 14, none⟩ = some (.bool true) ∧ w2.frozen? ⟨wb, 14, none⟩ = false ∧ w2.cell? ⟨wb, 0, none⟩ = some (.pointer (some ⟨x, 0, none⟩)) ∧ TellP O w wb C vars nums stay (K + 1) (given f (nums.getD i 0) b) (.returned (.int .i64 (r : Nat))) (w2.setCell ⟨wb, 14, none⟩ (.bool true)) := by
    intro w1 hb
    refine (copseRestrict_is (hA.below hb).cop Lt hL a f (letS i) b (nums.getD i 0) hf (hok.names i hi)).mono ?_
    intro e w2 hp
    obtain ⟨r, h1, h2, h3, h4, h5⟩ := told_wood (hA.below hb) hok hK hL hp
    exact ⟨r, h1, h2, h3, h4, h5.after hb (hA.lt wb hA.self)⟩
  obtain ⟨t, ht⟩ : ∃ t, t = given f (nums.getD i 0) b := ⟨_, rfl⟩
  rw [← ht] at hc ⊢
  have hlt := fun w => keepLetter i hi w
  have HC : Hid _ := hc
  clear hc ht hL hA hok hK hf hi
  go_enter Try.func13, Try.ntmps13
  go_wp2
  go_region_held (fun w' => w'.cell? ⟨wb, 0, none⟩ = some (.pointer (some ⟨x, 0, none⟩))) (go_keep) (first | (go_at_call 18; refine (hlt _).mono ?_; clear hlt; rintro e w1 ⟨rfl, hq⟩; replace hq := hq.symm; subst hq) | (go_at_call 27; refine (HC.out _ (Below.refl _ _).drew).mono ?_; clear HC; rintro e w1 ⟨r, rfl, q1, q2, q3, hp⟩))
  go_wp2
  go_ret
  exact hp

end Go.Proofs.Ytebfmcafmojlaaa

