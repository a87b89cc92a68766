/-
  graph: reach: a range over whatever iterator of references.
-/
import Derived.RangeFuncNested
import Derived.RangeFuncBound
import Derived.RangeFuncCalls
import Derived.RangeFuncLeaves
import Derived.Shelf.Abstract
import Derived.Shelf.RegionOpen
import Derived.OwnWalkIn
import Derived.TacticsInMore
import Derived.LoopNIn
import Derived.LoopIn
import Derived.Test.YtebfmcafmojlaaaGreatDoorT18
namespace Go.Proofs.YtebfmcafmojlaaaGreatDoor
open Go.RowKit Go.Maps Go.Shelf
set_option linter.unusedSimpArgs false
set_option linter.unusedVariables false
attribute [local go_sem] Oper.semAt_some

theorem Tryz.infoBool : (Tryz.prog.info? 4).map (fun i => (i.zero, i.size, i.bytes)) = some (some (.bool false), 1, 1) := by kernel_rfl

abbrev RefT (G : Gr) := { r : Nat // G.ok r ∧ r < refMax }
def encR (G : Gr) (x : RefT G) : Array Value := #[.int .i64 (x.1 : Int)]

/-- The marks A are just what the references xs reach. -/
structure MarkedAll (G : Gr) (A : List Bool) (xs : List (RefT G)) : Prop where
  self : ∀ x ∈ xs, x.1 / 2 = 0 ∨ isM A (x.1 / 2)
  kids : ∀ i, isM A i → ∃ n, G.node i = some n ∧ (n.t / 2 = 0 ∨ isM A (n.t / 2)) ∧ (n.e / 2 = 0 ∨ isM A (n.e / 2))
  least : ∀ T : Nat → Prop, G.Closed T → (∀ x ∈ xs, x.1 / 2 = 0 ∨ T (x.1 / 2)) → ∀ i, isM A i → T i

theorem MarkedAll.next {G : Gr} {A A' : List Bool} {xs : List (RefT G)} {x : RefT G} (h : MarkedAll G A xs) (m : Marked G A A' x.1) : MarkedAll G A' (xs ++ [x]) := by
  refine ⟨?_, ?_, ?_⟩
  · intro y hy
    rcases List.mem_append.1 hy with e | e
    · exact (h.self y e).imp id (m.mono _)
    · simp at e; subst e; exact m.self
  · intro i hi
    rcases m.kids i hi with e | e
    · obtain ⟨n, hn, a, b⟩ := h.kids i e
      exact ⟨n, hn, a.imp id (m.mono _), b.imp id (m.mono _)⟩
    · exact e
  · intro T hT hx i hi
    rcases m.least T hT (hx x (by simp)) i hi with e | e
    · exact h.least T hT (fun y hy => hx y (List.mem_append_left _ hy)) i e
    · exact e

theorem MarkedAll.reach {G : Gr} {A : List Bool} {xs : List (RefT G)} (h : MarkedAll G A xs) (i : Nat) : isM A i ↔ G.Reach (fun r => ∃ x ∈ xs, x.1 = r) i := by
  constructor
  · intro hi
    obtain ⟨n, hn, _⟩ := h.kids i hi
    exact ⟨⟨n, hn⟩, fun T hT hr => h.least T hT (fun x hx => hr x.1 ⟨x, hx, rfl⟩) i hi⟩
  · rintro ⟨_, hr⟩
    refine hr (isM A) ?_ ?_
    · intro j hj n hn
      obtain ⟨m, hm, a, b⟩ := h.kids j hj
      rw [hn] at hm
      cases hm
      exact ⟨a, b⟩
    · rintro r ⟨x, hx, rfl⟩
      exact h.self x hx

theorem madeCells_bool (n : Nat) : (madeCells (Value.bool false).cells (n * 1)).toList = (List.replicate n false).map Value.bool := by
  apply List.ext_getElem
  · simp [madeCells]
  · intro i h1 h2
    simp [madeCells, Value.cells, Nat.mod_one]

theorem isM_replicate (n i : Nat) : ¬ isM (List.replicate n false) i := by
  unfold isM
  rw [List.getD_eq_getElem?_getD, List.getElem?_replicate]
  split <;> simp

/-- What reach answers. -/
def ReachPost (O : Nat → Prop) (w : World) (gb : Nat) (S : GrS) (Sx : List (RefT S.g) → Prop) (e : Ending) (w' : World) : Prop :=
  ∃ xs A rb, Sx xs ∧ e = .returned (.slice (some ⟨rb, 0, none⟩) A.length A.length) ∧ MarkAt O w' gb S rb A.length A ∧ w.heap.size ≤ rb ∧ Below w.heap.size w w' ∧ MarkedAll S.g A xs

/-- Between two rounds. -/
structure ReachAt (O : Nat → Prop) (w : World) (gb : Nat) (S : GrS) (rb bb : Nat) (xs : List (RefT S.g)) (A : List Bool) (W : World) : Prop where
  m : MarkAt O W gb S rb S.nl.length A
  a : MarkedAll S.g A xs
  gbox : W.heap[w.heap.size]? = some (.cells #[.pointer (some ⟨gb, 0, none⟩)] 74 (0, 0))
  sbox : W.heap[bb]? = some (.cells #[.slice (some ⟨rb, 0, none⟩) S.nl.length S.nl.length] 201 (0, 0))
  b : Below w.heap.size w W

theorem ReachAt.len {O : Nat → Prop} {w : World} {gb : Nat} {S : GrS} {rb bb : Nat} {xs : List (RefT S.g)} {A : List Bool} {W : World} (h : ReachAt O w gb S rb bb xs A W) : A.length = S.nl.length := h.m.len

theorem ReachAt.kept {O : Nat → Prop} {w : World} {gb : Nat} {S : GrS} {rb bb : Nat} {xs : List (RefT S.g)} {A : List Bool} {W W' : World} (h : ReachAt O w gb S rb bb xs A W) (hO : ∀ b, O b → b < w.heap.size) {B : Nat} (h1 : w.heap.size < rb) (h2 : rb < B) (h3 : bb < B) (hs : W.heap.size ≤ W'.heap.size) (hos : W'.os = W.os) (htp : W'.tape = W.tape) (hout : W'.output = W.output)
    (hk : ∀ k, k < B → k < W.heap.size → W'.heap[k]? = W.heap[k]?) : ReachAt O w gb S rb bb xs A W' := by
  have hbs := h.b.size
  refine ⟨⟨h.m.G.keep hs (fun k hk' => hk k (by have := hO k hk'; omega) (h.m.G.lt k hk')), ?_, h.m.no, h.m.len⟩, h.a, ?_, ?_, ?_⟩
  · refine owns_same h.m.row (fun k hk' => ?_)
    obtain ⟨cur, hc⟩ := row_block h.m.row hk'
    simp [Value.ownBlock] at hk'
    subst hk'
    exact hk _ (by omega) (Array.getElem?_eq_some_iff.1 hc).1
  · exact (hk _ (by omega) (Array.getElem?_eq_some_iff.1 h.gbox).1).trans h.gbox
  · exact (hk _ h3 (Array.getElem?_eq_some_iff.1 h.sbox).1).trans h.sbox
  · exact ⟨hos.trans h.b.os, htp.trans h.b.tape, hout.trans h.b.output, Nat.le_trans hbs hs, fun k hk' => (hk k (by omega) (by omega)).trans (h.b.block k hk')⟩

theorem ReachAt.ownFrom {O : Nat → Prop} {w : World} {gb : Nat} {S : GrS} {rb bb B : Nat} (hO : ∀ b, O b → b < w.heap.size) (h1 : w.heap.size < rb) (h2 : rb < B) (h3 : bb < B) : OwnFrom B (fun (xs : List (RefT S.g)) W => ∃ A, ReachAt O w gb S rb bb xs A W) := by
  rintro s W W' row ⟨A, h⟩ hg hr
  exact ⟨A, h.kept hO h1 h2 h3 hg.size hg.os hg.tape hg.output (fun k hk hl => hg.block k hl (fun e => by have := (hr k e.symm).1; omega))⟩

theorem keeps_of_only {W W' : World} {rb : Nat} {cur : Array Value} {e : TypeId} (hc : W.heap[rb]? = some (.cells cur e (0, 0))) (ho : Only (· = rb) W W') : KeepsOthers W W' :=
  ⟨ho.size, fun k o hk hn => (ho.block k (Array.getElem?_eq_some_iff.1 hk).1 (fun e1 => by subst e1; rw [hc] at hk; cases hk; simp [Obj.isCells] at hn)).trans hk⟩

theorem below_of_only {B : Nat} {W W' : World} {rb : Nat} (ho : Only (· = rb) W W') (hb : B ≤ rb) (hB : B ≤ W.heap.size) : Below B W W' :=
  ⟨ho.os, ho.tape, ho.output, ho.size, fun k hk => ho.block k (by omega) (fun e => by subst e; omega)⟩

set_option maxHeartbeats 1000000 in
set_option maxRecDepth 100000 in
theorem graphReach_is {O : Nat → Prop} {w : World} {gb : Nat} {S : GrS} (hG : GrIs O w gb S) (k : S.g.Ok) {gf : Nat} {lb : Array Value} {Kp : World → World → Prop} {Sx Sp : List (RefT S.g) → Prop} {N : Nat}
    (eg : ∀ args w, (callFunc gf args).run Tryz.prog w = .ok (.enter gf args) w)
    (hseq : SeqStopsK Fence.wide 5 Tryz.prog gf lb (encR S.g) Kp Sx Sp N w) (hKt : ∀ {A B C : World}, Kp A B → Kp B C → Kp A C) (hKp : ∀ W W' : World, KeepsOthers W W' → Below w.heap.size W W' → Kp W W')
    (hKb : ∀ (W : World) (l : Nat) (o o' : Obj), w.heap.size ≤ l → W.heap[l]? = some o → o.isCells = false → o.isWalk = false → Kp W (W.putObj l o')) :
    Calls Tryz.prog 128 #[.pointer (some ⟨gb, 0, none⟩), .func (.func gf) #[] lb] w (ReachPost O w gb S Sx) := by
  obtain ⟨i0, hi, hz0, hz1, hz2⟩ := info_parts Tryz.infoBool
  have hN : S.nl.length ≤ 100000 := by obtain ⟨_, _, _, _, _, _, _, hA⟩ := hG; exact hA.nlen
  obtain ⟨W0, hW0⟩ : ∃ W0, W0 = w.alloc (.cells #[.pointer (some ⟨gb, 0, none⟩)] 74) := ⟨_, rfl⟩
  have hb0 : Below w.heap.size w W0 := by rw [hW0]; exact (Below.refl _ w).alloc (Nat.le_refl _) _
  have hc0 : W0.heap[w.heap.size]? = some (.cells #[.pointer (some ⟨gb, 0, none⟩)] 74 (0, 0)) := by rw [hW0]; exact heap_alloc_new w _
  have hs0 : W0.heap.size = w.heap.size + 1 := by rw [hW0]; simp
  obtain ⟨W1, hmk, hrow1, hg1⟩ := run_make_full (P := Tryz.prog) W0 0 201 4 i0 (.bool false) 1 Tryz.underlying201 hi hz0 hz1 .i64 .i64 S.nl.length (by rw [hz2]; omega) (by unfold maxLen; omega) (Nat.zero_le _)
  rw [madeCells_bool] at hrow1
  have hb1 : Below W0.heap.size W0 W1 := (Below.refl _ _).grown hg1 (Nat.le_refl _) (fun k hk => by cases hk)
  obtain ⟨rb, hrb⟩ : ∃ rb, rb = W0.heap.size := ⟨_, rfl⟩
  rw [← hrb] at hmk hrow1
  have hrbl : rb < W1.heap.size := by
    obtain ⟨cur, hcc⟩ := row_block hrow1 (b := rb) rfl
    exact (Array.getElem?_eq_some_iff.1 hcc).1
  obtain ⟨W2, hW2⟩ : ∃ W2, W2 = W1.alloc (.cells #[.slice (some ⟨rb, 0, none⟩) S.nl.length S.nl.length] 201) := ⟨_, rfl⟩
  have hb2 : Below W1.heap.size W1 W2 := by rw [hW2]; exact (Below.refl _ W1).alloc (Nat.le_refl _) _
  have hc2 : W2.heap[W1.heap.size]? = some (.cells #[.slice (some ⟨rb, 0, none⟩) S.nl.length S.nl.length] 201 (0, 0)) := by rw [hW2]; exact heap_alloc_new W1 _
  have hs2 : W2.heap.size = W1.heap.size + 1 := by rw [hW2]; simp
  have hbw2 : Below w.heap.size w W2 := (hb0.trans (hb1.mono hb0.size)).trans (hb2.mono (by have := hb0.size; have := hb1.size; omega))
  have hws1 : w.heap.size < W1.heap.size := by have := hb1.size; omega
  have hbox0 : W2.heap[w.heap.size]? = some (.cells #[.pointer (some ⟨gb, 0, none⟩)] 74 (0, 0)) := (hb2.block _ hws1).trans ((hb1.block _ (by omega)).trans hc0)
  obtain ⟨ov, nv, fv, mb, rb', M, R, hA⟩ := hG
  obtain ⟨c0, c1, c2, c3, c4⟩ := (hA.below hb0).c
  obtain ⟨nb, ncap, en, hnb, hob, hnode⟩ := (hA.below hb0).nodesAt
  subst en
  have q0 : W0.cell? ⟨w.heap.size, 0, none⟩ = some (.pointer (some ⟨gb, 0, none⟩)) := by rw [cell_of_heap hc0]; rfl
  have hA2 := hA.below hbw2
  have hst0 : MarkAt O W2 gb S rb S.nl.length (List.replicate S.nl.length false) := by
    refine ⟨⟨_, _, _, _, _, _, _, hA2⟩, ?_, fun ho => by have := hA.lt rb ho; omega, by simp⟩
    rw [List.length_replicate]
    exact owns_below hrow1 hb2 (Nat.le_refl _)
  have hH : Hid (W2 = W1.alloc (.cells #[.slice (some ⟨rb, 0, none⟩) S.nl.length S.nl.length] 201)) := hW2
  have HA : Hid (GrAt O w gb S ov (.slice (some ⟨nb, 0, none⟩) S.nl.length ncap) fv mb rb' M R) := hA
  have HK : Hid S.g.Ok := k
  have HQ : Hid (MarkAt O W2 gb S rb S.nl.length (List.replicate S.nl.length false)) := hst0
  have HR : Hid (w.heap.size < rb ∧ rb < W1.heap.size ∧ w.heap.size < W1.heap.size ∧ W2.heap.size = W1.heap.size + 1) := ⟨by omega, hrbl, hws1, hs2⟩
  have HB : Hid (Below w.heap.size w W2) := hbw2
  have HC : Hid (W2.heap[W1.heap.size]? = some (.cells #[.slice (some ⟨rb, 0, none⟩) S.nl.length S.nl.length] 201 (0, 0)) ∧ W2.heap[w.heap.size]? = some (.cells #[.pointer (some ⟨gb, 0, none⟩)] 74 (0, 0))) := ⟨hc2, hbox0⟩
  subst hW0
  clear hA2 hst0 hA k hrbl hws1 hs2 hbw2 hc2 hbox0 hrow1 hg1 hb0 hb1 hb2 hc0 hs0 hN hi hz0 hz1 hz2 hnode hob hnb c0 c2 c3 c4 hrb
  refine (callsIn_wide (n := 6)).1 ?_
  refine callsIn_of_wp_marks Tryz.func128 rfl trivial ?_ rfl
  simp only [Tryz.ntmps128, List.size_toArray, List.length_cons, List.length_nil, Nat.reduceAdd, Nat.reduceSub, Array.replicate_succ, Array.replicate_zero, List.push_toArray, List.append_toArray, List.nil_append, List.cons_append]
  gi_wp2
  rw [← hW2]
  clear hW2
  have hO : ∀ b, O b → b < w.heap.size := HA.out.lt
  obtain ⟨r1, r2, r3, r4⟩ := HR.out
  have hst : ReachAt O w gb S rb W1.heap.size [] (List.replicate S.nl.length false) W2 := ⟨HQ.out, ⟨by simp, fun i hi => absurd hi (isM_replicate _ _), fun _ _ _ i hi => absurd hi (isM_replicate _ _)⟩, HC.out.2, HC.out.1, HB.out⟩
  refine wpIn_rangeFunc_ownG rfl (by omega) (gf := gf) (lb := lb) rfl trivial eg hseq hKt (fun W l o o' hl => hKb W l o o' (by have := HB.out.size; omega)) HB.out (fun _ => rfl)
    (fun xs W => ∃ A, ReachAt O w gb S rb W1.heap.size xs A W) (fun _ _ _ => False) (ReachAt.ownFrom hO r1 (by omega) (by omega)) (fun _ _ _ _ _ hs _ _ => hs) ⟨_, hst⟩
    (fun x => { tmps := #[.pointer (some ⟨gb, 0, none⟩), .func (.func gf) #[] lb, .pointer (some ⟨w.heap.size, 0, none⟩), undef, .slice none 0 0, .pointer (some ⟨W1.heap.size, 0, none⟩), .int .i64 (x.1 : Int), .pointer (some ⟨gb, 0, none⟩), .pointer (some ⟨gb, 0, none⟩), .pointer (some ⟨gb, 1, none⟩), .slice (some ⟨nb, 0, none⟩) S.nl.length ncap, .int .i64 (S.nl.length : Int), .slice (some ⟨rb, 0, none⟩) S.nl.length S.nl.length, .func (.func gf) #[] lb, .int .i64 (x.1 : Int), undef, undef, undef, undef, undef], defers := [] }) ?assign ?body ?done ?stop
  case assign =>
    intro l x W K hK
    simp only [encR]
    gi_wp2
    exact hK
  case body =>
    rintro l pre x W ⟨A, h⟩ _
    have hlen := h.len
    have hmark := graphMark_is h.m HK.out x.2.1
    rw [hlen] at hmark
    have x1 : W.cell? ⟨w.heap.size, 0, none⟩ = some (.pointer (some ⟨gb, 0, none⟩)) := by rw [cell_of_heap h.gbox]; rfl
    have x2 : W.cell? ⟨W1.heap.size, 0, none⟩ = some (.slice (some ⟨rb, 0, none⟩) S.nl.length S.nl.length) := by rw [cell_of_heap h.sbox]; rfl
    have HH : Hid (ReachAt O w gb S rb W1.heap.size pre A W) := h
    clear h hst c1 q0
    gi_wp2_with (refine ⟨trivial, ?_⟩; gi_at_call 159; refine (CallsIn.inRound l (callsIn_wide.2 hmark)).mono ?_; rintro e W' ⟨rfl, A', hm', hmk', ho'⟩)
    have h := HH.out
    obtain ⟨cur, hcur⟩ := row_block h.m.row (b := rb) rfl
    have hk := keeps_of_only hcur ho'
    have hbl : Below w.heap.size W W' := below_of_only ho' (by omega) h.b.size
    have g1 := (ho'.block _ (Array.getElem?_eq_some_iff.1 h.gbox).1 (by omega)).trans h.gbox
    have g2 := (ho'.block _ (Array.getElem?_eq_some_iff.1 h.sbox).1 (by omega)).trans h.sbox
    have hnx : MarkedAll S.g A' (pre ++ [x]) := MarkedAll.next (x := x) h.a hmk'
    have hfin : ReachAt O w gb S rb W1.heap.size (pre ++ [x]) A' W' := ⟨hm', hnx, g1, g2, h.b.trans hbl⟩
    have hkp := hKp _ _ hk hbl
    exact ⟨hk.from _, hkp, A', hfin⟩
  case done =>
    rintro D xs W hD hS ⟨A, h⟩ hK
    have x2 : W.cell? ⟨W1.heap.size, 0, none⟩ = some (.slice (some ⟨rb, 0, none⟩) S.nl.length S.nl.length) := by rw [cell_of_heap h.sbox]; rfl
    have HH : Hid (ReachAt O w gb S rb W1.heap.size xs A W) := h
    clear h hst c1 q0
    gi_wp2
    refine ⟨by simp, .inl ⟨_, _, rfl, run_takeDeferred hK, ?_⟩⟩
    have h := HH.out
    have hfin : ReachAt O w gb S rb W1.heap.size xs A (W.putObj D (.deferred none)) := h.kept hO r1 (B := W2.heap.size) (by omega) (by omega) (by simp) rfl rfl rfl (fun k hk hl => World.putObj_heap_other (by omega))
    have hlen := h.len
    have hm := hfin.m
    exact ⟨_, results_tmp rfl _ _ _, xs, A, rb, hS, by rw [hlen]; rfl, by rw [hlen]; exact hm, by omega, hfin.b, hfin.a⟩
  case stop =>
    rintro D c pre W _ _ h _
    exact h.elim

end Go.Proofs.YtebfmcafmojlaaaGreatDoor

/-
  copse.refs: an iterator over handles.
-/
namespace Go.Proofs.YtebfmcafmojlaaaGreatDoor
open Go.RowKit Go.Maps Go.Shelf
set_option linter.unusedSimpArgs false
set_option linter.unusedVariables false
attribute [local go_sem] Oper.semAt_some

/-- refs: a closure over a box that holds the list. -/
theorem copseRefs_is (ao : Option Addr) (n cap : Nat) (w : World) : Calls Tryz.prog 38 #[.slice ao n cap] w fun e w' => e = .returned (.func (.func 75) #[] #[.pointer (some ⟨w.heap.size, 0, none⟩)]) ∧ w' = w.alloc (.cells #[.slice ao n cap] 25) := by
  have hmf : ∀ (fn : Fn) (first cap : Array Value) (w : World), (Instr.makeFunc fn first cap).run Tryz.prog w = .ok (.func fn first cap) w := fun _ _ _ _ => rfl
  go_enter Tryz.func38, Tryz.ntmps38
  go_wp2
  go_ret
  exact ⟨rfl, rfl⟩

def refCell {G : Gr} (x : RefT G) : Value := .int .i64 (x.1 : Int)

set_option maxHeartbeats 1000000 in
set_option maxRecDepth 100000 in
theorem refs_stops {G : Gr} (n : Nat) (hn : 1 ≤ n) (rs : List (RefT G)) (Bx : Nat) (fv : Value) (w : World) (hx : w.cell? ⟨Bx, 0, none⟩ = some fv) (hxl : Bx < w.heap.size) (hr : Reads w.heap.size w fv (rs.map refCell)) (hl : rs.length ≤ 1000000000) :
    SeqStopsK Fence.wide n Tryz.prog 75 #[.pointer (some ⟨Bx, 0, none⟩)] (encR G) (Below w.heap.size) (fun xs => xs = rs) (fun _ => True) rs.length w := fun l J Jx W hW hJ hJx hY h0 => by
  have hx' : W.cell? ⟨Bx, 0, none⟩ = some fv := (hW.cell (p := ⟨Bx, 0, none⟩) hxl).trans hx
  have hr' := hr.below hW (Nat.le_refl _)
  clear hr hx
  refine callsIn_of_wp Tryz.func75 rfl trivial ?_ rfl
  simp only [Tryz.ntmps75, List.size_toArray, List.length_cons, List.length_nil, Nat.reduceAdd, Nat.reduceSub, Array.replicate_succ, Array.replicate_zero, List.push_toArray, List.append_toArray, List.nil_append, List.cons_append]
  rcases hr' with ⟨rfl, hnil⟩ | ⟨b, off, cap, rfl, hlt, hc⟩
  · have hnil' : rs = [] := by simpa using hnil
    subst hnil'
    gi_wp2
    gi_loopw [7] (fun i wr => i = .int .i64 0 ∧ J [] wr) (fun _ _ => 0)
    case atStart => exact ⟨rfl, h0⟩
    case round =>
      obtain ⟨rfl, hJ0⟩ := hrel
      gi_wp2
      go_end0
      exact ⟨⟨_, rfl⟩, .inl ⟨[], rfl, hJ0⟩⟩
  · simp only [List.length_map] at hc hx'
    gi_wp2
    gi_loopw [7] (fun i wr => ∃ k : Nat, k ≤ rs.length ∧ i = .int .i64 k ∧ J (rs.take k) wr ∧ Below w.heap.size W wr) (fun i _ => rs.length - (intOf i).toNat)
    case atStart => exact ⟨0, Nat.zero_le _, rfl, by simpa using h0, Below.refl _ _⟩
    case round =>
      obtain ⟨k, hk, rfl, hJs, hbw⟩ := hrel
      by_cases hkl : k < rs.length
      · have hcell : wr.cell? ⟨b, off + k, none⟩ = some (.int .i64 ((rs[k]'hkl).1 : Int)) := by
          rw [hbw.cell (p := ⟨b, off + k, none⟩) hlt, hc k (by simpa using hkl)]
          simp [hkl, refCell]
        obtain ⟨fn, tmps, assign, body, hy, hR⟩ := hY (rs.take k) (rs[k]'hkl) wr hJs (by simp; omega)
        simp only [encR] at hy
        have htk : rs.take k ++ [rs[k]'hkl] = rs.take (k + 1) := (List.take_succ_eq_append_getElem hkl).symm
        rw [htk] at hR
        have hkl' : (k : Int) < (rs.length : Int) := by omega
        obtain ⟨z, hz⟩ : ∃ z : Nat, z = (rs[k]'hkl).1 := ⟨_, rfl⟩
        rw [← hz] at hcell hy
        have HZ : Hid (z = (rs[k]'hkl).1) := hz
        clear hc hz htk
        gi_wp2
        refine hR.mono ?_
        rintro e W3 (⟨rfl, hJ3, hk3⟩ | ⟨rfl, hJx3⟩)
        · gi_wp2
          go_roundw
          case rel => exact ⟨k + 1, by omega, by go_num, hJ3, hbw.trans hk3⟩
          case measure => simp [intOf]; omega
        · gi_wp2
          refine bodyPost_ret (results_none rfl _ _ _) rfl ?_
          exact ⟨⟨_, rfl⟩, .inr ⟨_, trivial, hJx3⟩⟩
      · have hk' : k = rs.length := by omega
        subst hk'
        rw [List.take_length] at hJs
        gi_wp2
        go_end0
        exact ⟨⟨_, rfl⟩, .inl ⟨rs, rfl, hJs⟩⟩

end Go.Proofs.YtebfmcafmojlaaaGreatDoor

