/-
  graph: mark.
-/
import Derived.Test.YtebfmcafmojlaaaT13
namespace Go.Proofs.Ytebfmcafmojlaaa
open Go.RowKit Go.Maps
set_option linter.unusedSimpArgs false
set_option linter.unusedVariables false

def isM (A : List Bool) (i : Nat) : Prop := A.getD i false = true

/-- Of the numbers A those that f reaches have been marked too. -/
structure Marked (G : Gr) (A A' : List Bool) (f : Nat) : Prop where
  len : A'.length = A.length
  mono : ∀ i, isM A i → isM A' i
  self : f / 2 = 0 ∨ isM A' (f / 2)
  kids : ∀ i, isM A' i → isM A i ∨ ∃ n, G.node i = some n ∧ (n.t / 2 = 0 ∨ isM A' (n.t / 2)) ∧ (n.e / 2 = 0 ∨ isM A' (n.e / 2))
  least : ∀ T : Nat → Prop, G.Closed T → (f / 2 = 0 ∨ T (f / 2)) → ∀ i, isM A' i → isM A i ∨ T i

theorem Marked.refl {G : Gr} {A : List Bool} {f : Nat} (h : f / 2 = 0 ∨ isM A (f / 2)) : Marked G A A f :=
  ⟨rfl, fun _ h => h, h, fun _ h => .inl h, fun _ _ _ _ h => .inl h⟩

theorem isM_set {A : List Bool} {q i : Nat} (hq : q < A.length) : isM (A.set q true) i ↔ i = q ∨ isM A i := by
  unfold isM
  rw [List.getD_eq_getElem?_getD, List.getD_eq_getElem?_getD, List.getElem?_set]
  by_cases e : q = i
  · subst e; simp [hq]
  · have : ¬ i = q := fun e' => e e'.symm
    simp [e, this]

theorem Marked.step {G : Gr} (k : G.Ok) {A A1 A2 : List Bool} {f : Nat} {n : Nd} (hn : G.node (f / 2) = some n) (hq : f / 2 < A.length) (h1 : Marked G (A.set (f / 2) true) A1 n.t) (h2 : Marked G A1 A2 n.e) : Marked G A A2 f := by
  have m0 : ∀ i, isM A i → isM (A.set (f / 2) true) i := fun i h => (isM_set hq).2 (.inr h)
  have ms : isM A2 (f / 2) := h2.mono _ (h1.mono _ ((isM_set hq).2 (.inl rfl)))
  refine ⟨by rw [h2.len, h1.len, List.length_set], fun i h => h2.mono i (h1.mono i (m0 i h)), .inr ms, ?_, ?_⟩
  · intro i hi
    rcases h2.kids i hi with h | ⟨m, hm, a, b⟩
    · rcases h1.kids i h with h | ⟨m, hm, a, b⟩
      · rcases (isM_set hq).1 h with e | h
        · subst e
          exact .inr ⟨n, hn, h1.self.imp id (h2.mono _), h2.self⟩
        · exact .inl h
      · exact .inr ⟨m, hm, a.imp id (h2.mono _), b.imp id (h2.mono _)⟩
    · exact .inr ⟨m, hm, a, b⟩
  · intro T hT hf i hi
    have hTf : T (f / 2) := hf.resolve_left (fun e => by rw [e, k.zero] at hn; cases hn)
    obtain ⟨ct, ce⟩ := hT _ hTf n hn
    rcases h2.least T hT ce i hi with h | h
    · rcases h1.least T hT ct i h with h | h
      · rcases (isM_set hq).1 h with e | h
        · subst e; exact .inr hTf
        · exact .inl h
      · exact .inr h
    · exact .inr h

/-- A row of marks, in a block of its own. -/
structure MarkAt (O : Nat → Prop) (w : World) (gb : Nat) (S : GrS) (rb cap : Nat) (A : List Bool) : Prop where
  G : GrIs O w gb S
  row : w.ownsRow 0 4 1 (.slice (some ⟨rb, 0, none⟩) A.length cap) A.length (A.map Value.bool)
  no : ¬ O rb
  len : A.length = S.nl.length

def MarkPost (O : Nat → Prop) (w : World) (gb : Nat) (S : GrS) (rb cap : Nat) (A : List Bool) (f : Nat) (e : Ending) (w' : World) : Prop := e = .returned (.tuple #[]) ∧ ∃ A', MarkAt O w' gb S rb cap A' ∧ Marked S.g A A' f ∧ Only (· = rb) w w'

def MarkIs (d : Nat) : Prop := ∀ (O : Nat → Prop) (w : World) (gb : Nat) (S : GrS) (f rb cap : Nat) (A : List Bool), MarkAt O w gb S rb cap A → S.g.Ok → S.g.ok f → S.g.order.length ≤ S.g.lev f + d →
  Calls Try.prog 75 #[.pointer (some ⟨gb, 0, none⟩), .int .i64 f, .slice (some ⟨rb, 0, none⟩) A.length cap] w (MarkPost O w gb S rb cap A f)

theorem MarkAt.below {O : Nat → Prop} {w w' : World} {gb : Nat} {S : GrS} {rb cap : Nat} {A : List Bool} (h : MarkAt O w gb S rb cap A) (hb : Below w.heap.size w w') : MarkAt O w' gb S rb cap A :=
  ⟨h.G.below hb, owns_below h.row hb (Nat.le_refl _), h.no, h.len⟩

theorem MarkAt.cell {O : Nat → Prop} {w : World} {gb : Nat} {S : GrS} {rb cap : Nat} {A : List Bool} (h : MarkAt O w gb S rb cap A) {i : Nat} (hi : i < A.length) : w.cell? ⟨rb, i, none⟩ = some (.bool (A.getD i false)) := by
  have := h.row.cells (g := rb) rfl i (.bool (A.getD i false)) (by rw [List.getElem?_map, List.getD_eq_getElem?_getD, List.getElem?_eq_getElem hi]; rfl)
  have hadd : (⟨rb, 0, none⟩ : Addr).add i = ⟨rb, 0 + i, none⟩ := by unfold Addr.add; split <;> simp_all
  rw [hadd, Nat.zero_add] at this
  exact this

theorem MarkAt.frozen {O : Nat → Prop} {w : World} {gb : Nat} {S : GrS} {rb cap : Nat} {A : List Bool} (h : MarkAt O w gb S rb cap A) (i : Nat) : w.frozen? ⟨rb, i, none⟩ = false := by
  obtain ⟨cur, hc⟩ := row_block h.row (b := rb) rfl
  exact frozen_of_heap hc

theorem MarkAt.set {O : Nat → Prop} {w : World} {gb : Nat} {S : GrS} {rb cap : Nat} {A : List Bool} (h : MarkAt O w gb S rb cap A) {i : Nat} (hi : i < A.length) : MarkAt O (w.setCell ⟨rb, i, none⟩ (.bool true)) gb S rb cap (A.set i true) ∧ Only (· = rb) w (w.setCell ⟨rb, i, none⟩ (.bool true)) := by
  refine ⟨⟨h.G.keep (by simp [World.setCell]) (fun k hk => Below.heap_setCell _ _ _ _ (fun e => h.no (by simp only at e; rw [← e]; exact hk))), ?_, h.no, by rw [List.length_set]; exact h.len⟩, (Only.refl (fun x => x = rb) w).setCell (p := ⟨rb, i, none⟩) (.inl rfl) _⟩
  rw [List.length_set]
  rcases h.row.2 with ⟨e, _⟩ | ⟨g, cap', cur, e, hb, hg, hn, hm, hs, ht⟩
  · cases e
  · simp only [Value.slice.injEq, Option.some.injEq, Addr.mk.injEq, and_true, true_and] at e
    obtain ⟨rfl, rfl⟩ := e
    refine ⟨by simp, .inr ⟨rb, cap, cur.setIfInBounds i (.bool true), rfl, Nat.zero_le _, heap_setCell_at hg, hn, hm, by simpa using hs, ?_⟩⟩
    rw [Array.toList_setIfInBounds, List.take_set, ht, List.map_set]

theorem MarkPost.pre {O : Nat → Prop} {w w1 w' : World} {gb : Nat} {S : GrS} {rb cap : Nat} {A : List Bool} {f : Nat} {e : Ending} (hb : Below w.heap.size w w1) (h : MarkPost O w1 gb S rb cap A f e w') : MarkPost O w gb S rb cap A f e w' := by
  obtain ⟨he, A', h1, h2, h3⟩ := h
  exact ⟨he, A', h1, h2, below_then_only hb h3⟩

set_option maxHeartbeats 400000 in
set_option maxRecDepth 10000 in
theorem graphMark_short {O : Nat → Prop} {w : World} {gb : Nat} {S : GrS} {f rb cap : Nat} {A : List Bool} (h : MarkAt O w gb S rb cap A) (k : S.g.Ok) (hf : S.g.ok f) (hs : f / 2 = 0 ∨ isM A (f / 2)) :
    Calls Try.prog 75 #[.pointer (some ⟨gb, 0, none⟩), .int .i64 f, .slice (some ⟨rb, 0, none⟩) A.length cap] w (MarkPost O w gb S rb cap A f) := by
  have hp : MarkPost O w gb S rb cap A f (.returned (.tuple #[])) w := ⟨rfl, A, h, Marked.refl hs, Only.refl _ _⟩
  generalize MarkPost O w gb S rb cap A f = Post at hp ⊢
  have hcon := refConstant_is f
  by_cases hz : f / 2 = 0
  · have hd : decide (f / 2 = 0) = true := by simp [hz]
    rw [hd] at hcon
    clear h k hf hs hz hd
    go_enter Try.func75, Try.ntmps75
    go_wp2_with (go_at_call 68; refine (hcon _).mono ?_; rintro e w1 ⟨rfl, hq⟩; replace hq := hq.symm; subst hq)
    first | exact hp | (go_end0; exact hp)
  · have hd : decide (f / 2 = 0) = false := by simp [hz]
    rw [hd] at hcon
    have hm := hs.resolve_left hz
    obtain ⟨n, hn⟩ := Gr.ok_node hf hz
    have hlt : f / 2 < A.length := by rw [h.len]; exact GrS.node_lt hn
    have hc := h.cell hlt
    unfold isM at hm
    rw [hm] at hc
    have hnum := refNumber_is f
    obtain ⟨q, hq⟩ : ∃ q, q = f / 2 := ⟨_, rfl⟩
    rw [← hq] at hlt hc hnum
    clear h k hf hs hz hd hn hm hq
    go_enter Try.func75, Try.ntmps75
    go_wp2_with (first
      | (go_at_call 68; refine (hcon _).mono ?_; rintro e w1 ⟨rfl, hq⟩; replace hq := hq.symm; subst hq)
      | (go_at_call 69; refine (hnum _).mono ?_; rintro e w1 ⟨rfl, hq⟩; replace hq := hq.symm; subst hq))
    first | exact hp | (go_end0; exact hp)

end Go.Proofs.Ytebfmcafmojlaaa

/-
  graph: mark whole.
-/
namespace Go.Proofs.Ytebfmcafmojlaaa
open Go.RowKit Go.Maps
set_option linter.unusedSimpArgs false
set_option linter.unusedVariables false

set_option maxHeartbeats 400000 in
set_option maxRecDepth 10000 in
theorem graphMark_down (d : Nat) (IH : MarkIs d) {O : Nat → Prop} {w : World} {gb : Nat} {S : GrS} {f rb cap : Nat} {A : List Bool} (h : MarkAt O w gb S rb cap A) (k : S.g.Ok) {n : Nd} (hn : S.g.node (f / 2) = some n) (hf : S.g.ok f) (hd : S.g.order.length ≤ S.g.lev f + (d + 1)) (hs : ¬ isM A (f / 2)) :
    Calls Try.prog 75 #[.pointer (some ⟨gb, 0, none⟩), .int .i64 f, .slice (some ⟨rb, 0, none⟩) A.length cap] w (MarkPost O w gb S rb cap A f) := by
  have hz : ¬ f / 2 = 0 := fun e => by rw [e, k.zero] at hn; cases hn
  have hcon := refConstant_is f
  have hd' : decide (f / 2 = 0) = false := by simp [hz]
  rw [hd'] at hcon
  have hlt : f / 2 < A.length := by rw [h.len]; exact GrS.node_lt hn
  have hc := h.cell hlt
  have hm : A.getD (f / 2) false = false := by
    unfold isM at hs
    cases e : A.getD (f / 2) false
    · rfl
    · exact absurd e hs
  rw [hm] at hc
  have hfr := h.frozen (f / 2)
  obtain ⟨hA1, ho1⟩ := h.set hlt
  obtain ⟨w1, hw1⟩ : ∃ w1, w1 = w.setCell ⟨rb, f / 2, none⟩ (.bool true) := ⟨_, rfl⟩
  rw [← hw1] at hA1 ho1
  have htlev := k.tlev hn
  have helev := k.elev hn
  rw [Gr.lev_node hn] at hd
  have hal : ∀ o : Obj, Below w1.heap.size w1 ((w1.alloc o).drew) := fun o => ((Below.refl _ w1).alloc (Nat.le_refl _) o).drew
  have hlen1 : (A.set (f / 2) true).length = A.length := List.length_set
  have hmt : ∀ wq, Below w1.heap.size w1 wq → Calls Try.prog 75 #[.pointer (some ⟨gb, 0, none⟩), .int .i64 n.t, .slice (some ⟨rb, 0, none⟩) A.length cap] wq (MarkPost O wq gb S rb cap (A.set (f / 2) true) n.t) := by
    intro wq hb
    have := IH O wq gb S n.t rb cap (A.set (f / 2) true) (hA1.below hb) k (k.tok hn) (by omega)
    rw [hlen1] at this
    exact this
  have hme : ∀ (w2 : World) (A1 : List Bool), MarkAt O w2 gb S rb cap A1 → A1.length = A.length → Calls Try.prog 75 #[.pointer (some ⟨gb, 0, none⟩), .int .i64 n.e, .slice (some ⟨rb, 0, none⟩) A.length cap] w2 (MarkPost O w2 gb S rb cap A1 n.e) := by
    intro w2 A1 h2 hl
    have := IH O w2 gb S n.e rb cap A1 h2 k (k.eok hn) (by omega)
    rw [hl] at this
    exact this
  have hfin : ∀ (wq w2 w3 : World) (A1 A2 : List Bool), Below w1.heap.size w1 wq → Marked S.g (A.set (f / 2) true) A1 n.t → Only (· = rb) wq w2 → Marked S.g A1 A2 n.e → Only (· = rb) w2 w3 → MarkAt O w3 gb S rb cap A2 → MarkPost O w gb S rb cap A f (.returned (.tuple #[])) w3 := by
    intro wq w2 w3 A1 A2 hb m1 o1 m2 o2 h3
    exact ⟨rfl, A2, h3, Marked.step k hn hlt m1 m2, ho1.trans (below_then_only hb (o1.trans o2 (Grows.refl _ _))) (Grows.refl _ _)⟩
  have hoff : ∀ (w2 : World) (p : Addr), Only (· = rb) w1 w2 → p.block ≠ rb → p.block < w1.heap.size → w2.cell? p = w1.cell? p := fun w2 p ho hne hl => ho.cell hne hl
  have hnum := refNumber_is f
  obtain ⟨ov, nv, fv, mb, rb', M, R, hG⟩ := hA1.G
  obtain ⟨c0, c1, c2, c3, c4⟩ := hG.c
  obtain ⟨nb, ncap, en, hnb, hob, hnode⟩ := hG.nodeAt
  subst en
  obtain ⟨hi, d0, d1, d2⟩ := hnode _ _ hn
  obtain ⟨q, hq⟩ : ∃ q, q = f / 2 := ⟨_, rfl⟩
  rw [← hq] at hlt hc hfr hw1 hi d0 d1 d2 hnum hmt hfin
  obtain ⟨v, t, e⟩ := n
  simp only at d0 d1 d2 hmt hme hfin
  obtain ⟨Wb, hWb⟩ : ∃ Wb, Wb = w1.alloc (.cells #[.int .i64 (v : Int), .int .i64 (t : Int), .int .i64 (e : Int)] 97) := ⟨_, rfl⟩
  have hbb : Below w1.heap.size w1 Wb := by rw [hWb]; exact (Below.refl _ w1).alloc (Nat.le_refl _) _
  have hbc : Wb.heap[w1.heap.size]? = some (.cells #[.int .i64 (v : Int), .int .i64 (t : Int), .int .i64 (e : Int)] 97 (0, 0)) := by rw [hWb]; exact heap_alloc_new w1 _
  have hrbl : rb < w1.heap.size := by
    obtain ⟨cur, hcc⟩ := row_block hA1.row (b := rb) rfl
    exact (Array.getElem?_eq_some_iff.1 hcc).1
  have x1 : Wb.cell? ⟨w1.heap.size, 1, none⟩ = some (.int .i64 (t : Int)) := by rw [cell_of_heap hbc]; rfl
  have x2 : ∀ w2 : World, Only (· = rb) Wb.drew w2 → w2.cell? ⟨w1.heap.size, 2, none⟩ = some (.int .i64 (e : Int)) := by
    intro w2 ho
    rw [ho.cell (p := ⟨w1.heap.size, 2, none⟩) (by show w1.heap.size ≠ rb; omega) (Array.getElem?_eq_some_iff.1 hbc).1]
    show Wb.cell? _ = _
    rw [cell_of_heap hbc]; rfl
  have hmt' := hmt Wb.drew hbb.drew
  have HF : Hid _ := hfin Wb.drew
  have HB : Hid (Below w1.heap.size w1 Wb.drew) := hbb.drew
  generalize MarkPost O w gb S rb cap A f = Post at HF ⊢
  clear hmt hfin h k hn hf hd hs hz hd' hm hA1 ho1 hG hnode c0 c2 c3 c4 hob hbb hbc hal hlen1 hoff htlev helev IH hq hrbl
  go_enter Try.func75, Try.ntmps75
  go_upto_region 2 with (first
    | (go_at_call 68; refine (hcon _).mono ?_; rintro e' w1 ⟨rfl, hq⟩; replace hq := hq.symm; subst hq)
    | (go_at_call 69; refine (hnum _).mono ?_; rintro e' w1 ⟨rfl, hq⟩; replace hq := hq.symm; subst hq))
  rw [← hw1]
  clear hw1 hc hfr hlt
  go_region_held (fun w' => w'.cell? ⟨gb, 1, none⟩ = some (.slice (some ⟨nb, 0, none⟩) S.nl.length ncap) ∧ w'.cell? ⟨nb, q * 3, none⟩ = some (.int .i64 (v : Nat)) ∧ w'.cell? ⟨nb, q * 3 + 1, none⟩ = some (.int .i64 (t : Nat)) ∧ w'.cell? ⟨nb, q * 3 + 2, none⟩ = some (.int .i64 (e : Nat))) (go_keep) (first | (go_at_call 69; refine (hnum _).mono ?_; rintro e' w1 ⟨rfl, hq⟩; replace hq := hq.symm; subst hq))
  all_goals
    rw [← hWb]
    clear hWb d0 d1 d2 c1 hnum
    go_wp2_with (first
      | (go_at_call 75; refine hmt'.mono ?_; clear hmt'; rintro e' w2 ⟨rfl, A1, hA1, m1, o1⟩; have y2 := x2 w2 o1; have hme' := hme w2 A1 hA1 (by rw [m1.len]; exact List.length_set))
      | (go_at_call 75; refine hme'.mono ?_; clear hme'; rintro e' w3 ⟨rfl, A2, hA2, m2, o2⟩))
    first | exact HF.out w2 w3 A1 A2 HB.out m1 o1 m2 o2 hA2 | (go_end0; exact HF.out w2 w3 A1 A2 HB.out m1 o1 m2 o2 hA2)

theorem graphMark_all : ∀ d, MarkIs d := by
  intro d
  induction d with
  | zero =>
    intro O w gb S f rb cap A h k hf hd
    refine graphMark_short h k hf (.inl ?_)
    rcases hf with e | ⟨n, e⟩
    · exact e
    · have := k.idx_lt e
      rw [Gr.lev_node e] at hd
      omega
  | succ d IH =>
    intro O w gb S f rb cap A h k hf hd
    by_cases hs : f / 2 = 0 ∨ isM A (f / 2)
    · exact graphMark_short h k hf hs
    · obtain ⟨n, hn⟩ := Gr.ok_node hf (fun e => hs (.inl e))
      exact graphMark_down d IH h k hn hf hd (fun e => hs (.inr e))

theorem graphMark_is {O : Nat → Prop} {w : World} {gb : Nat} {S : GrS} {f rb cap : Nat} {A : List Bool} (h : MarkAt O w gb S rb cap A) (k : S.g.Ok) (hf : S.g.ok f) :
    Calls Try.prog 75 #[.pointer (some ⟨gb, 0, none⟩), .int .i64 f, .slice (some ⟨rb, 0, none⟩) A.length cap] w (MarkPost O w gb S rb cap A f) :=
  graphMark_all 6 O w gb S f rb cap A h k hf (by have := h.G.ol; omega)

end Go.Proofs.Ytebfmcafmojlaaa

