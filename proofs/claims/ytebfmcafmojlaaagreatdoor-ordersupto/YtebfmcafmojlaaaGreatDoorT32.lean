/-
  graph: swap: what the rounds carry.
-/
import Derived.Test.YtebfmcafmojlaaaGreatDoorT31
namespace Go.Proofs.YtebfmcafmojlaaaGreatDoor
open Go.RowKit Go.Maps
set_option linter.unusedSimpArgs false
set_option linter.unusedVariables false

theorem GrAt.zAt {O : Nat → Prop} {w : World} {gb : Nat} {S : GrS} {ov nv fv : Value} {mb rb : Nat} {M R : List (Value × Value)} (h : GrAt O w gb S ov nv fv mb rb M R) : ∃ nb ncap, nv = .slice (some ⟨nb, 0, none⟩) S.nl.length ncap ∧ nb < w.heap.size ∧ ∀ m, m < S.nl.length →
    w.cell? ⟨nb, m * 3, none⟩ = some (.int .i64 ((ndZ (S.nl.getD m none)).v : Int)) ∧ w.cell? ⟨nb, m * 3 + 1, none⟩ = some (.int .i64 ((ndZ (S.nl.getD m none)).t : Int)) ∧ w.cell? ⟨nb, m * 3 + 2, none⟩ = some (.int .i64 ((ndZ (S.nl.getD m none)).e : Int)) := by
  obtain ⟨nb, ncap, ncur, en, hnb, hob, hngb, hncap, hncm, hncs, hntk⟩ := h.nodesBlock
  refine ⟨nb, ncap, en, own_lt2 hnb, ?_⟩
  intro m hm
  have hc := h.nodes.cells (g := nb) (by rw [en]; rfl)
  have hz := ndCells_z (S.nl.getD m none)
  have g : ∀ j, j < 3 → ∀ u, (ndCells (S.nl.getD m none))[j]? = some u → w.cell? ⟨nb, m * 3 + j, none⟩ = some u := by
    intro j hj u hu
    have := hc (m * 3 + j) u (by rw [flat3_get _ _ _ hm hj]; exact hu)
    rw [Addr.add_lit, Nat.zero_add] at this
    exact this
  rw [hz] at g
  exact ⟨g 0 (by omega) _ rfl, g 1 (by omega) _ rfl, g 2 (by omega) _ rfl⟩

/-- After the numbers up to m. -/
structure SwapSt (O : Nat → Prop) (w : World) (gb : Nat) (S : GrS) (x y m : Nat) (wr : World) (Sm : GrS) (Om : Nat → Prop) : Prop where
  only : Only O w wr
  grows : Grows w O Om
  G : GrIs Om wr gb Sm
  order : Sm.order = S.order
  ov : Sm.ov = S.ov
  sm : Sm.g.Sm (exy x y)
  full : Sm.Full
  keeps : ∀ r, S.g.ok r → Sm.g.ok r ∧ Sm.g.tab r = S.g.tab r
  cnt : Sm.nums.length ≤ S.nums.length + 2 * (S.nums.filter (fun i => decide (i < m))).length
  nl : Sm.nl.length = S.nl.length ∨ Sm.nl.length ≤ Sm.nums.length + 1
  le : S.nl.length ≤ Sm.nl.length
  J : ∀ i n, Sm.g.node i = some n → n.v = x → hangs (Sm.g.sem i) y = true → m ≤ i ∧ S.g.node i = some n

theorem SwapSt.start {O : Nat → Prop} {w : World} {gb : Nat} {S : GrS} {x y : Nat} (hG : GrIs O w gb S) (k : S.g.Ok) (hF : S.Full) : SwapSt O w gb S x y 0 w S O :=
  ⟨Only.refl _ _, Grows.refl _ _, hG, rfl, rfl, k.sm.mono (fun _ _ h => h.elim), hF, fun r h => ⟨h, rfl⟩, by omega, .inl rfl, Nat.le_refl _, fun i n h _ _ => ⟨Nat.zero_le _, h⟩⟩

theorem SwapSt.below {O : Nat → Prop} {w wr w' : World} {gb : Nat} {S Sm : GrS} {x y m : Nat} {Om : Nat → Prop} (h : SwapSt O w gb S x y m wr Sm Om) (hb : Below wr.heap.size wr w') : SwapSt O w gb S x y m w' Sm Om :=
  { h with only := h.only.then_below hb, G := h.G.below hb }

theorem filter_lt_le (l : List Nat) (m : Nat) : (l.filter (fun i => decide (i < m))).length ≤ (l.filter (fun i => decide (i < m + 1))).length := by
  induction l with
  | nil => simp
  | cons a l ih =>
    simp only [List.filter_cons]
    by_cases h : a < m
    · have h2 : a < m + 1 := by omega
      simp only [h, h2, decide_true, if_true, List.length_cons]
      omega
    · simp only [h, decide_false, Bool.false_eq_true, if_false]
      split
      · simp only [List.length_cons]; omega
      · exact ih

theorem filter_lt_mem (l : List Nat) (m : Nat) (h : m ∈ l) : (l.filter (fun i => decide (i < m))).length + 1 ≤ (l.filter (fun i => decide (i < m + 1))).length := by
  induction l with
  | nil => cases h
  | cons a l ih =>
    simp only [List.filter_cons]
    by_cases e : a = m
    · subst e
      have h1 : ¬ a < a := by omega
      have h2 : a < a + 1 := by omega
      simp only [h1, h2, decide_false, decide_true, Bool.false_eq_true, if_false, if_true, List.length_cons]
      have := filter_lt_le l a
      omega
    · have hm : m ∈ l := by
        rcases List.mem_cons.1 h with e' | e'
        · exact absurd e'.symm e
        · exact e'
      have := ih hm
      by_cases h1 : a < m
      · have h2 : a < m + 1 := by omega
        simp only [h1, h2, decide_true, if_true, List.length_cons]
        omega
      · have h2 : ¬ a < m + 1 := by omega
        simp only [h1, h2, decide_false, Bool.false_eq_true, if_false]
        exact this

theorem SwapSt.next {O : Nat → Prop} {w wr : World} {gb : Nat} {S Sm : GrS} {x y m : Nat} {Om : Nat → Prop} (h : SwapSt O w gb S x y m wr Sm Om) (hno : ∀ n, Sm.g.node m = some n → n.v = x → hangs (Sm.g.sem m) y = false) : SwapSt O w gb S x y (m + 1) wr Sm Om := by
  refine { h with cnt := ?_, J := ?_ }
  · have := h.cnt
    have := filter_lt_le S.nums m
    omega
  · intro i n hn hv hh
    have h1 := h.J i n hn hv hh
    have : i ≠ m := by
      intro e
      subst e
      rw [hno n hn hv] at hh
      cases hh
    exact ⟨by omega, h1.2⟩

theorem SwapSt.turn {O : Nat → Prop} {w wr w' : World} {gb : Nat} {S Sm S' : GrS} {x y m : Nat} {Om : Nat → Prop} (h : SwapSt O w gb S x y m wr Sm Om) (hst : GrStep Om wr gb w' S') (ht : Sm.Turn S' x y m) {n : Nd} (hn : Sm.g.node m = some n) (hv : n.v = x) (hang : hangs (Sm.g.sem m) y = true) : ∃ Om', SwapSt O w gb S x y (m + 1) w' S' Om' := by
  obtain ⟨ho, Om', hG', hg'⟩ := hst
  refine ⟨Om', ⟨h.only.trans ho h.grows, h.grows.trans hg' h.only.size, hG', ht.order.trans h.order, ht.ov.trans h.ov, ht.sm, ht.full, ?_, ?_, ?_, Nat.le_trans h.le ht.le, ?_⟩⟩
  · intro r hr
    obtain ⟨h1, h2⟩ := h.keeps r hr
    obtain ⟨h3, h4⟩ := ht.keeps r h1
    exact ⟨h3, h4.trans h2⟩
  · have h1 := h.cnt
    have h2 := ht.cnt
    have h3 := filter_lt_mem S.nums m (GrS.mem_nums.2 ⟨n, (h.J m n hn hv hang).2⟩)
    omega
  · rcases ht.nl with e | e
    · rcases h.nl with e1 | e1
      · exact .inl (e.trans e1)
      · right
        have : Sm.nums.length ≤ S'.nums.length := by
          refine List.Nodup.length_le_of_subset (nums_nodup Sm) ?_
          intro i hi
          obtain ⟨a, ha⟩ := GrS.mem_nums.1 hi
          have hok : Sm.g.ok (2 * i) := .inr ⟨a, by rw [show 2 * i / 2 = i by omega]; exact ha⟩
          have hk := (ht.keeps _ hok).1
          have hi0 : i ≠ 0 := by intro e0; subst e0; rw [h.sm.zero] at ha; cases ha
          rcases hk with e2 | ⟨b, e2⟩
          · omega
          · rw [show 2 * i / 2 = i by omega] at e2
            exact GrS.mem_nums.2 ⟨b, e2⟩
        omega
    · exact .inr e
  · intro i a ha hv' hh
    obtain ⟨h1, h2⟩ := ht.new i a ha hv' hh
    have hsem : S'.g.sem i = Sm.g.sem i := by
      have hok : Sm.g.ok (2 * i) := .inr ⟨a, by rw [show 2 * i / 2 = i by omega]; exact h2⟩
      have := (ht.keeps _ hok).2
      unfold Gr.tab at this
      rw [if_pos (by omega), if_pos (by omega), show 2 * i / 2 = i by omega] at this
      exact this
    rw [hsem] at hh
    have h3 := h.J i a h2 hv' hh
    exact ⟨by omega, h3.2⟩

theorem Gr.Sm.no_ask {G : Gr} {l x y : Nat} (k : G.Sm (exy x y)) (two : G.Two l x y) {i : Nat} {n : Nd} (hn : G.node i = some n) (hx : n.v = x) (h1 : G.lev n.t ≠ l + 1) (h2 : G.lev n.e ≠ l + 1) : hangs (G.sem i) y = false := by
  have hk1 := k.kid_free two hn hx (c := n.t) (.inl rfl)
  have hk2 := k.kid_free two hn hx (c := n.e) (.inr rfl)
  rw [k.is hn]
  exact hangs_iteT _ _ _ _ (k.v6 hn) (k.lt6 y two.hy) (by rw [hx]; exact fun e => two.ne e.symm) (k.kid_not two hk1.1 hk1.2 h1) (k.kid_not two hk2.1 hk2.2 h2)

/-- Behind swap. -/
structure GrS.Swapped (S S' : GrS) (l x y : Nat) : Prop where
  order : S'.order = swapO S.order l x y
  ov : S'.ov = S.ov
  ok : S'.g.Ok
  full : S'.Full
  keeps : ∀ r, S.g.ok r → S'.g.ok r ∧ S'.g.tab r = S.g.tab r
  cnt : S'.nums.length ≤ 3 * S.nums.length
  nl : S'.nl.length = S.nl.length ∨ S'.nl.length ≤ S'.nums.length + 1

theorem SwapSt.done {O : Nat → Prop} {w wr w' : World} {gb : Nat} {S Sm : GrS} {l x y m : Nat} {Om : Nat → Prop} (h : SwapSt O w gb S x y m wr Sm Om) (hm : S.nl.length ≤ m) (two : S.g.Two l x y) {ov nv fv : Value} {mb rb : Nat} {M R : List (Value × Value)} (hA : GrAt Om wr gb Sm ov nv fv mb rb M R)
    {ob cap : Nat} (eo : ov = .slice (some ⟨ob, 0, none⟩) Sm.order.length cap) (e : w' = (wr.setCell ⟨ob, l, none⟩ (.int .i64 (y : Int))).setCell ⟨ob, l + 1, none⟩ (.int .i64 (x : Int))) : ∃ S', GrStep O w gb w' S' ∧ S.Swapped S' l x y := by
  obtain ⟨ho, hA'⟩ := hA.reorder (x := x) (y := y) (l := l) eo e
  have two' : Sm.g.Two l x y := two.ext h.order
  have hsw := swapO_is h.sm.nodup two'.hx two'.hy two'.ix two'.iy
  have hok : Gr.Ok { Sm.g with order := swapO Sm.order l x y } := by
    refine h.sm.swapped two' ?_ _ hsw.nd hsw.mem hsw.ix hsw.iy hsw.io
    intro i n hn hv
    have hnh : ¬ hangs (Sm.g.sem i) y = true := by
      intro hh
      obtain ⟨h1, h2⟩ := h.J i n hn hv hh
      have := GrS.node_lt h2
      omega
    exact ⟨fun e => hnh (h.sm.asks two' hn (.inl e)), fun e => hnh (h.sm.asks two' hn (.inr e))⟩
  refine ⟨{ Sm with order := swapO Sm.order l x y }, ⟨h.only.trans ho h.grows, Om, ⟨_, _, _, _, _, _, _, hA'⟩, h.grows⟩, ⟨by show swapO Sm.order l x y = _; rw [h.order], h.ov, hok, h.full, h.keeps, ?_, h.nl⟩⟩
  have h1 : Sm.nums.length ≤ S.nums.length + 2 * (S.nums.filter (fun i => decide (i < m))).length := h.cnt
  have h2 : (S.nums.filter (fun i => decide (i < m))).length ≤ S.nums.length := List.length_filter_le _ _
  show Sm.nums.length ≤ 3 * S.nums.length
  omega

end Go.Proofs.YtebfmcafmojlaaaGreatDoor

